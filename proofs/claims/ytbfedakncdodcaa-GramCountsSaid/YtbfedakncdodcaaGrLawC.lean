/-
  A count ahead of a motion is told as it is: layer 11.
-/
import Derived.Test.YtbfedakncdodcaaGrSays
namespace Go.Proofs.Ytbfedakncdodcaa
open Go.RowKit

/-- the digits that lie before so great a one -/
def decD (n d : Int) : List Int := (if d < 10000 ∧ 10000 ≤ n then [48 + n / 10000 % 10] else []) ++ (if d < 1000 ∧ 1000 ≤ n then [48 + n / 1000 % 10] else []) ++ (if d < 100 ∧ 100 ≤ n then [48 + n / 100 % 10] else []) ++ (if d < 10 ∧ 10 ≤ n then [48 + n / 10 % 10] else []) ++ (if d < 1 ∧ 1 ≤ n then [48 + n % 10] else [])
theorem decD_none (n : Int) : decD n 10000 = [] := by unfold decD; simp
theorem decD_all (n : Int) : decD n 0 = decG n := by unfold decD decG; simp
theorem decD_len (n d : Int) : (decD n d).length ≤ 5 := by
  unfold decD
  simp only [List.length_append]
  split <;> split <;> split <;> split <;> split <;> simp
theorem decD_10000 (n : Int) : decD n 1000 = decD n 10000 ++ (if 10000 ≤ n then [48 + n / 10000 % 10] else []) := by unfold decD; simp
theorem decD_1000 (n : Int) : decD n 100 = decD n 1000 ++ (if 1000 ≤ n then [48 + n / 1000 % 10] else []) := by unfold decD; simp
theorem decD_100 (n : Int) : decD n 10 = decD n 100 ++ (if 100 ≤ n then [48 + n / 100 % 10] else []) := by unfold decD; simp
theorem decD_10 (n : Int) : decD n 1 = decD n 10 ++ (if 10 ≤ n then [48 + n / 10 % 10] else []) := by unfold decD; simp
theorem decD_1 (n : Int) : decD n 0 = decD n 1 ++ (if 1 ≤ n then [48 + n % 10] else []) := by unfold decD; simp
theorem dec_range {n : Int} (_h : 0 ≤ n) : ∀ z ∈ decG n, 48 ≤ z ∧ z ≤ 57 := by
  intro z hz
  have key : ∀ (p : Prop) [Decidable p] (e : Int), 48 ≤ e ∧ e ≤ 57 → z ∈ (if p then [e] else []) → 48 ≤ z ∧ z ≤ 57 := fun p _ e he h => by
    split at h
    · rw [List.mem_singleton.1 h]; exact he
    · simp at h
  unfold decG at hz
  rw [List.mem_append, List.mem_append, List.mem_append, List.mem_append] at hz
  rcases hz with (((hz | hz) | hz) | hz) | hz
  all_goals exact key _ _ (by omega) hz
theorem plain_cases {k : Int} (h : plainG k = true) : ((k == 104) = true) ∨ ((k == 104) = false ∧ (k == 106) = true) ∨ ((k == 104) = false ∧ (k == 106) = false ∧ (k == 107) = true) ∨ ((k == 104) = false ∧ (k == 106) = false ∧ (k == 107) = false ∧ (k == 108) = true) ∨ ((k == 104) = false ∧ (k == 106) = false ∧ (k == 107) = false ∧ (k == 108) = false ∧ (k == 119) = true) ∨ ((k == 104) = false ∧ (k == 106) = false ∧ (k == 107) = false ∧ (k == 108) = false ∧ (k == 119) = false ∧ (k == 98) = true) ∨ ((k == 104) = false ∧ (k == 106) = false ∧ (k == 107) = false ∧ (k == 108) = false ∧ (k == 119) = false ∧ (k == 98) = false ∧ (k == 101) = true) ∨ ((k == 104) = false ∧ (k == 106) = false ∧ (k == 107) = false ∧ (k == 108) = false ∧ (k == 119) = false ∧ (k == 98) = false ∧ (k == 101) = false ∧ (k == 71) = true) ∨ ((k == 104) = false ∧ (k == 106) = false ∧ (k == 107) = false ∧ (k == 108) = false ∧ (k == 119) = false ∧ (k == 98) = false ∧ (k == 101) = false ∧ (k == 71) = false ∧ (k == 36) = true) ∨ ((k == 104) = false ∧ (k == 106) = false ∧ (k == 107) = false ∧ (k == 108) = false ∧ (k == 119) = false ∧ (k == 98) = false ∧ (k == 101) = false ∧ (k == 71) = false ∧ (k == 36) = false ∧ (k == 123) = true) ∨ ((k == 104) = false ∧ (k == 106) = false ∧ (k == 107) = false ∧ (k == 108) = false ∧ (k == 119) = false ∧ (k == 98) = false ∧ (k == 101) = false ∧ (k == 71) = false ∧ (k == 36) = false ∧ (k == 123) = false ∧ (k == 125) = true) := by
  have h' := inG_iff.1 h
  simp only [List.mem_cons, List.not_mem_nil, or_false] at h'
  rcases h' with rfl | rfl | rfl | rfl | rfl | rfl | rfl | rfl | rfl | rfl | rfl <;> simp
theorem plain_not {k : Int} (h : ¬ plainG k = true) : (k == 104) = false ∧ (k == 106) = false ∧ (k == 107) = false ∧ (k == 108) = false ∧ (k == 119) = false ∧ (k == 98) = false ∧ (k == 101) = false ∧ (k == 71) = false ∧ (k == 36) = false ∧ (k == 123) = false ∧ (k == 125) = false := by
  refine ⟨?_, ?_, ?_, ?_, ?_, ?_, ?_, ?_, ?_, ?_, ?_⟩ <;> (rw [beq_eq_false_iff_ne]; rintro rfl; exact h (by decide))
set_option maxHeartbeats 2000000 in
theorem gramCounts_walk (KS : GramSays) (w : World) (n : Int) (hn : 0 ≤ n ∧ n ≤ 65535) (k : Int) (hk : -2147483648 ≤ k ∧ k ≤ 2147483647) (v : Bool) :
    Calls Try.prog 6 #[.int .u16 n, .int .i32 k, .bool v] w fun e w' => e = .returned (.bool true) ∧ Below w.heap.size w w' := by
  have HK := Lib.hid KS
  clear KS
  go_enter Try.func6, Try.ntmps6
  go_upto_region 3 with (first
    | (go_at_call 7; refine (aliveG_any HK.out _).mono ?_; rintro e w1 ⟨rfl, b1⟩))
  go_wp2_with fail
  go_loopw [7, 8] (fun x i wr => ∃ d : Int, (d = 10000 ∨ d = 1000 ∨ d = 100 ∨ d = 10 ∨ d = 1 ∨ d = 0) ∧ i = .int .i64 d ∧ wr.ownsRow w1.heap.size 21 1 x (decD n d).length ((decD n d).map runz) ∧ Below w1.heap.size w1 wr) (fun _ i _ => (intOf i).toNat)
  case atStart => exact ⟨10000, by omega, rfl, by rw [decD_none]; exact World.ownsRow_nil _ _ _ _, Below.refl _ _⟩
  case round =>
    obtain ⟨d, hd, rfl, hown, hb⟩ := hrel
    have z := hb.size
    have hdl := decD_len n d
    obtain ⟨A1, c1, rfl⟩ := own_form hown
    rcases hd with rfl | rfl | rfl | rfl | rfl | rfl
    · by_cases h : 10000 ≤ n
      · have HT := Lib.hid (show decD n 1000 = decD n 10000 ++ [48 + n / 10000 % 10] by rw [decD_10000, if_pos h])
        generalize decD n 10000 = D at *
        go_wp2_with (at_builtin; refine wpList_push rfl _ _ _ rfl w1.heap.size 21 _ 4 elt_rune _ _ _ _ rfl hown (.int .i32 (48 + n / 10000 % 10)) rfl rfl (by unfold maxLen; omega) (by omega) z ?_; intro v2 w2 hown2 hb2)
        go_roundw
        case rel => exact ⟨1000, by omega, by go_num, by rw [HT.out, List.length_append, List.map_append]; exact hown2, hb.trans hb2⟩
        case measure => simp [intOf]
      · have HT := Lib.hid (show decD n 1000 = decD n 10000 by rw [decD_10000, if_neg h, List.append_nil])
        generalize decD n 10000 = D at *
        go_wp2_with fail
        go_roundw
        case rel => exact ⟨1000, by omega, by go_num, by rw [HT.out]; exact hown, hb⟩
        case measure => simp [intOf]
    · by_cases h : 1000 ≤ n
      · have HT := Lib.hid (show decD n 100 = decD n 1000 ++ [48 + n / 1000 % 10] by rw [decD_1000, if_pos h])
        generalize decD n 1000 = D at *
        go_wp2_with (at_builtin; refine wpList_push rfl _ _ _ rfl w1.heap.size 21 _ 4 elt_rune _ _ _ _ rfl hown (.int .i32 (48 + n / 1000 % 10)) rfl rfl (by unfold maxLen; omega) (by omega) z ?_; intro v2 w2 hown2 hb2)
        go_roundw
        case rel => exact ⟨100, by omega, by go_num, by rw [HT.out, List.length_append, List.map_append]; exact hown2, hb.trans hb2⟩
        case measure => simp [intOf]
      · have HT := Lib.hid (show decD n 100 = decD n 1000 by rw [decD_1000, if_neg h, List.append_nil])
        generalize decD n 1000 = D at *
        go_wp2_with fail
        go_roundw
        case rel => exact ⟨100, by omega, by go_num, by rw [HT.out]; exact hown, hb⟩
        case measure => simp [intOf]
    · by_cases h : 100 ≤ n
      · have HT := Lib.hid (show decD n 10 = decD n 100 ++ [48 + n / 100 % 10] by rw [decD_100, if_pos h])
        generalize decD n 100 = D at *
        go_wp2_with (at_builtin; refine wpList_push rfl _ _ _ rfl w1.heap.size 21 _ 4 elt_rune _ _ _ _ rfl hown (.int .i32 (48 + n / 100 % 10)) rfl rfl (by unfold maxLen; omega) (by omega) z ?_; intro v2 w2 hown2 hb2)
        go_roundw
        case rel => exact ⟨10, by omega, by go_num, by rw [HT.out, List.length_append, List.map_append]; exact hown2, hb.trans hb2⟩
        case measure => simp [intOf]
      · have HT := Lib.hid (show decD n 10 = decD n 100 by rw [decD_100, if_neg h, List.append_nil])
        generalize decD n 100 = D at *
        go_wp2_with fail
        go_roundw
        case rel => exact ⟨10, by omega, by go_num, by rw [HT.out]; exact hown, hb⟩
        case measure => simp [intOf]
    · by_cases h : 10 ≤ n
      · have HT := Lib.hid (show decD n 1 = decD n 10 ++ [48 + n / 10 % 10] by rw [decD_10, if_pos h])
        generalize decD n 10 = D at *
        go_wp2_with (at_builtin; refine wpList_push rfl _ _ _ rfl w1.heap.size 21 _ 4 elt_rune _ _ _ _ rfl hown (.int .i32 (48 + n / 10 % 10)) rfl rfl (by unfold maxLen; omega) (by omega) z ?_; intro v2 w2 hown2 hb2)
        go_roundw
        case rel => exact ⟨1, by omega, by go_num, by rw [HT.out, List.length_append, List.map_append]; exact hown2, hb.trans hb2⟩
        case measure => simp [intOf]
      · have HT := Lib.hid (show decD n 1 = decD n 10 by rw [decD_10, if_neg h, List.append_nil])
        generalize decD n 10 = D at *
        go_wp2_with fail
        go_roundw
        case rel => exact ⟨1, by omega, by go_num, by rw [HT.out]; exact hown, hb⟩
        case measure => simp [intOf]
    · by_cases h : 1 ≤ n
      · have HT := Lib.hid (show decD n 0 = decD n 1 ++ [48 + n % 10] by rw [decD_1, if_pos h])
        generalize decD n 1 = D at *
        go_wp2_with (at_builtin; refine wpList_push rfl _ _ _ rfl w1.heap.size 21 _ 4 elt_rune _ _ _ _ rfl hown (.int .i32 (48 + n % 10)) rfl rfl (by unfold maxLen; omega) (by omega) z ?_; intro v2 w2 hown2 hb2)
        go_roundw
        case rel => exact ⟨0, by omega, by go_num, by rw [HT.out, List.length_append, List.map_append]; exact hown2, hb.trans hb2⟩
        case measure => simp [intOf]
      · have HT := Lib.hid (show decD n 0 = decD n 1 by rw [decD_1, if_neg h, List.append_nil])
        generalize decD n 1 = D at *
        go_wp2_with fail
        go_roundw
        case rel => exact ⟨0, by omega, by go_num, by rw [HT.out]; exact hown, hb⟩
        case measure => simp [intOf]
    · by_cases hp : plainG k = true
      · have HQ : Hid (parseG (decG n ++ [k]) v = (⟨0, min n 999, k, 0, 0⟩, (decG n).length + 1, 1)) := parseG_count hn hp
        have HR : Hid (∀ z ∈ decG n ++ [k], -2147483648 ≤ z ∧ z ≤ 2147483647) := fun z hz => by
          rcases List.mem_append.1 hz with hz | hz
          · have := dec_range hn.1 z hz; omega
          · rw [List.mem_singleton.1 hz]; exact hk
        have hal := decD_all n
        rw [hal] at hown hdl ⊢
        clear hal
        generalize hD : decG n = D at *
        have HD := Lib.hid hD
        clear hD
        obtain ⟨L, hL⟩ : ∃ L, D ++ [k] = L := ⟨_, rfl⟩
        have hlen : D.length + 1 = L.length := by rw [← hL, List.length_append]; rfl
        have HLE := Lib.hid hlen
        have hrow : D.map runz ++ [.int .i32 k] = L.map runz := by rw [← hL, List.map_append]; rfl
        have HRW := Lib.hid hrow
        rw [hL] at HQ HR
        clear hL hlen hrow
        have hpc := plain_cases hp
        clear hp
        rcases hpc with e1 | ⟨e1, e2⟩ | ⟨e1, e2, e3⟩ | ⟨e1, e2, e3, e4⟩ | ⟨e1, e2, e3, e4, e5⟩ | ⟨e1, e2, e3, e4, e5, e6⟩ | ⟨e1, e2, e3, e4, e5, e6, e7⟩ | ⟨e1, e2, e3, e4, e5, e6, e7, e8⟩ | ⟨e1, e2, e3, e4, e5, e6, e7, e8, e9⟩ | ⟨e1, e2, e3, e4, e5, e6, e7, e8, e9, e10⟩ | ⟨e1, e2, e3, e4, e5, e6, e7, e8, e9, e10, e11⟩
        all_goals
          go_wp2_with (first
            | (at_builtin; refine wpList_push rfl (.tmp 46) (.tmp 48) _ rfl w1.heap.size 21 _ 4 elt_rune _ _ _ _ rfl hown (.int .i32 k) rfl rfl (by unfold maxLen; omega) (by omega) z ?_
               intro v2 w2 o2 b2
               obtain ⟨A2, c2, rfl⟩ := own_form o2
               rw [HLE.out, HRW.out] at o2
               rw [HLE.out]
               have HO := Lib.hid o2
               clear o2)
            | (go_at_call 12; refine (HK.out.parse A2 c2 _ L v w2 (Nat.le_refl _) HR.out (by have := HLE.out; omega) (Row.of_own HO.out)).mono ?_; rw [HQ.out]; rintro e w3 ⟨rfl, b3⟩))
          all_goals go_ret
          all_goals exact ⟨rfl, (b1.trans ((hb.trans b2).mono b1.size)).trans (b3.alloc b3.size _ |>.mono (Nat.le_trans b1.size (Nat.le_trans z b2.size)))⟩
      · obtain ⟨e1, e2, e3, e4, e5, e6, e7, e8, e9, e10, e11⟩ := plain_not hp
        clear hp
        generalize decD n 0 = D at *
        go_wp2_with fail
        go_ret
        exact ⟨rfl, b1.trans (hb.mono b1.size)⟩
end Go.Proofs.Ytbfedakncdodcaa

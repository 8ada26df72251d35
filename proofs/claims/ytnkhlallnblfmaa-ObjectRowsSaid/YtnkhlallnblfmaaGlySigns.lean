/-
  Contracts of the document's own answers, layer 2: one.
-/
import Derived.Test.YtnkhlallnblfmaaGlyNumber
namespace Go.Proofs.Ytnkhlallnblfmaa
open Go.RowKit

/-- a sign as the document's struct -/
def signV (a : Nat) (x : Nat × Nat) : Array Value := #[.int .i64 (a : Int), .int .i64 (x.2 : Int), .int .i64 (x.1 : Int), .bool (!broken x)]

theorem text_mid (S : List UInt8) (a n : Nat) : ({ data := S.toArray } : ByteArray).extract a (a + n) = ⟨((S.drop a).take n).toArray⟩ := by
  apply ByteArray.ext
  rw [ByteArray.data_extract]
  apply Array.ext'
  simp

theorem size_sign : (Try.prog.info? 59).map (·.size) = some 4 := by kernel_rfl
theorem signV_size (a : Nat) (x : Nat × Nat) : (signV a x).size = 4 := rfl
theorem signV_one (a : Nat) (x : Nat × Nat) : (signV a x).all (·.oneCell') = true := by simp [signV, Value.oneCell']

set_option maxHeartbeats 2000000 in
theorem refOne_any (S : List UInt8) (a : Nat) (h : a < S.length) (hs : S.length ≤ maxLen) (w : World) :
    Calls Try.prog 37 #[.string ⟨S.toArray⟩, .int .i64 a] w fun e w' => e = .returned (.agg (signV a (dec (S.drop a)))) ∧ Below w.heap.size w w' := by
  unfold maxLen at hs
  have hne := drop_ne h
  have HNE := Lib.hid hne
  clear hne
  have hlen : (S.drop a).length = S.length - a := List.length_drop
  have HLEN := Lib.hid hlen
  clear hlen
  have hblk := Blk.new w 59 #[.int .i64 0, .int .i64 0, .int .i64 0, .bool false]
  go_enter Try.func37, Try.ntmps37
  go_wp2
  go_loopw [5] (fun i wr => ∃ k : Nat, 1 ≤ k ∧ k ≤ 5 ∧ i = .int .i64 k ∧ (∀ m, 1 ≤ m → m < k → m ≤ (S.drop a).length → ¬ stands (S.drop a) m) ∧ Blk wr w.heap.size 59 #[.int .i64 0, .int .i64 0, .int .i64 0, .bool false] ∧ Below w.heap.size w wr) (fun i _ => 5 - (intOf i).toNat)
  case atStart => exact ⟨1, by omega, by omega, rfl, fun m h1 h2 => absurd h2 (by omega), hblk, (Below.refl _ _).alloc (Nat.le_refl _) _⟩
  case round =>
    clear hblk
    obtain ⟨k, h1k, hk5, rfl, hno, hbk, hb⟩ := hrel
    have HNO := Lib.hid hno
    clear hno
    have z := hb.size
    by_cases hlt : k ≤ 4 ∧ k ≤ S.length - a
    · obtain ⟨hk4, hkl⟩ := hlt
      obtain ⟨b, t, hx⟩ := List.exists_cons_of_ne_nil (show (S.drop a).take k ≠ [] by
        intro h0; have := congrArg List.length h0; rw [List.length_take, HLEN.out, List.length_nil] at this; omega)
      have ht : t.length ≤ 3 := by
        have := congrArg List.length hx
        rw [List.length_take, List.length_cons] at this; omega
      have hE : ({ data := S.toArray } : ByteArray).extract a (a + k) = ⟨(b :: t).toArray⟩ := by rw [text_mid, hx]
      have HX := Lib.hid hx
      clear hx
      have hNs : stands (S.drop a) k ↔ mayB (num (b :: t) : Nat) = true ∧ enc (num (b :: t)) = b :: t := by
        unfold stands; rw [HX.out, mayB_may]
      generalize hN : num (b :: t) = N at *
      have HN := Lib.hid hN
      clear hN
      by_cases hmay : mayB (N : Int) = true
      · have hle : N ≤ 1114111 := ((mayB_may N).1 hmay).1
        by_cases hst : enc N = b :: t
        · have hstands := hNs.2 ⟨hmay, hst⟩
          have hdec := stands_dec (by rw [HLEN.out]; omega) hstands
          have hwh := stands_whole (by rw [HLEN.out]; omega) hstands
          rw [HX.out, HN.out] at hdec
          rw [hdec] at hwh
          have HD := Lib.hid hdec
          have HW := Lib.hid hwh
          have HS := Lib.hid (show (enc N == b :: t) = true by simp [hst])
          clear hdec hwh hstands hNs hst HNO
          go_wp2_with (first
            | (go_at_call 44; refine (refNumber_any b t ht _).mono ?_; rintro e w1 ⟨rfl, rfl⟩; rw [HN.out])
            | (go_at_call 45; refine (refMay_any _ _).mono ?_; rintro e w1 ⟨rfl, rfl⟩; rw [hmay])
            | (go_at_call 46; refine (refGlyBytes_any N hle _).mono ?_; rintro e w2 ⟨rfl, hb2⟩; have hbk2 := hbk.below hb2 hbk.lt; have hSq := HS.out)
            | ((with_reducible refine at_store 59 (.tmp 4) (.tmp 39) ?_); refine wpList_setRow rfl 59 (.tmp 4) (.tmp 39) rfl w.heap.size (signV a (N, k)) rfl (by unfold signV; rw [HW.out]; rfl) 59 _ hbk2 size_sign rfl (signV_one _ _) ?_; intro w3 hbk3 hg3))
          refine bodyPost_ret (results_cell_row rfl _ _ w.heap.size 59 (signV a (N, k)) (0, 0) _ rfl hbk3 Try.underlying59 rfl size_sign) rfl ?_
          have z2 := hb2.size
          exact ⟨by rw [HD.out], (hb.trans (hb2.mono z)).trans (below_of_grown hg3 (by omega) (Nat.le_refl _))⟩
        · have HNO2 : Hid (∀ m, 1 ≤ m → m < k + 1 → m ≤ (S.drop a).length → ¬ stands (S.drop a) m) := fun m h1 h2 h3 => by
            by_cases hmk : m = k
            · subst hmk; intro hh; exact hst (hNs.1 hh).2
            · exact HNO.out m h1 (by omega) h3
          have HS := Lib.hid (show (enc N == b :: t) = false by simp [hst])
          clear hNs hst HNO
          go_wp2_with (first
            | (go_at_call 44; refine (refNumber_any b t ht _).mono ?_; rintro e w1 ⟨rfl, rfl⟩; rw [HN.out])
            | (go_at_call 45; refine (refMay_any _ _).mono ?_; rintro e w1 ⟨rfl, rfl⟩; rw [hmay])
            | (go_at_call 46; refine (refGlyBytes_any N hle _).mono ?_; rintro e w2 ⟨rfl, hb2⟩; have hbk2 := hbk.below hb2 hbk.lt; have hSq := HS.out))
          go_roundw
          case rel => exact ⟨k + 1, by omega, by omega, by go_num, HNO2.out, hbk2, hb.trans (hb2.mono z)⟩
          case measure => simp [intOf]; omega
      · have HNO2 : Hid (∀ m, 1 ≤ m → m < k + 1 → m ≤ (S.drop a).length → ¬ stands (S.drop a) m) := fun m h1 h2 h3 => by
          by_cases hmk : m = k
          · subst hmk; intro hh; exact hmay (hNs.1 hh).1
          · exact HNO.out m h1 (by omega) h3
        have hmf : mayB (N : Int) = false := by simpa using hmay
        clear hNs HNO hmay
        go_wp2_with (first
          | (go_at_call 44; refine (refNumber_any b t ht _).mono ?_; rintro e w1 ⟨rfl, rfl⟩; rw [HN.out])
          | (go_at_call 45; refine (refMay_any _ _).mono ?_; rintro e w1 ⟨rfl, rfl⟩; rw [hmf]))
        go_roundw
        case rel => exact ⟨k + 1, by omega, by omega, by go_num, HNO2.out, hbk, hb⟩
        case measure => simp [intOf]; omega
    · have hdec := dec_none HNE.out (fun m h1 h2 h3 => HNO.out m h1 (by rw [HLEN.out] at h3; omega) h3)
      have HD := Lib.hid hdec
      clear hdec HNO
      by_cases hk4 : k ≤ 4
      all_goals
        go_wp2_with (first
          | ((with_reducible refine at_store 59 (.tmp 4) (.tmp 41) ?_); refine wpList_setRow rfl 59 (.tmp 4) (.tmp 41) rfl w.heap.size (signV a (0xFFFD, 1)) rfl rfl 59 _ hbk size_sign rfl (signV_one _ _) ?_; intro w3 hbk3 hg3))
        refine bodyPost_ret (results_cell_row rfl _ _ w.heap.size 59 (signV a (0xFFFD, 1)) (0, 0) _ rfl hbk3 Try.underlying59 rfl size_sign) rfl ?_
        exact ⟨by rw [HD.out], hb.trans (below_of_grown hg3 (by omega) (Nat.le_refl _))⟩
end Go.Proofs.Ytnkhlallnblfmaa

/-
  What is answered hangs on no key behind those that are counted: layer 11.
-/
import Derived.Test.YtbfedakncdodcaaGrOurs
namespace Go.Proofs.Ytbfedakncdodcaa
open Go.RowKit

theorem row_first {w : World} {B : Nat} {A : Option Addr} {zs : List Int} (h : Row w B A (zs.map runz)) (n : Nat) : Row w B A ((zs.take n).map runz) := by
  rcases h with h | ⟨ad, e, hb, hc⟩
  · left
    rw [List.map_eq_nil_iff] at h
    rw [h]; simp
  · refine .inr ⟨ad, e, hb, fun j u hj => hc j u ?_⟩
    rw [List.getElem?_map] at hj ⊢
    rw [List.getElem?_take] at hj
    split at hj
    · exact hj
    · simp at hj
set_option maxRecDepth 100000 in
set_option maxHeartbeats 4000000 in
theorem gramOneWay_walk (KS : GramSays) (w : World) (A : Option Addr) (c : Nat) (zs : List Int) (hlen : zs.length ≤ maxLen) (hx : ∀ z ∈ zs, -2147483648 ≤ z ∧ z ≤ 2147483647) (hcap : zs.length ≤ c) (row : Row w w.heap.size A (zs.map runz)) (A2 : Option Addr) (c2 : Nat) (ys : List Int) (hlen2 : ys.length ≤ maxLen) (hy : ∀ z ∈ ys, -2147483648 ≤ z ∧ z ≤ 2147483647) (row2 : Row w w.heap.size A2 (ys.map runz)) (v : Bool) :
    Calls Try.prog 4 #[.slice A zs.length c, .slice A2 ys.length c2, .bool v] w fun e w' => e = .returned (.bool true) ∧ Below w.heap.size w w' := by
  have HK := Lib.hid KS
  have HX := Lib.hid hx
  have HY := Lib.hid hy
  unfold maxLen at hlen hlen2
  clear KS hx hy
  by_cases hl : (300 : Int) < (zs.length : Int)
  · go_enter Try.func4, Try.ntmps4
    go_wp2_with (go_at_call 7; refine (aliveG_any HK.out _).mono ?_; rintro e w1 ⟨rfl, b1⟩)
    go_ret
    exact ⟨rfl, b1⟩
  by_cases hs : (4096 : Int) < (ys.length : Int)
  · go_enter Try.func4, Try.ntmps4
    go_wp2_with (go_at_call 7; refine (aliveG_any HK.out _).mono ?_; rintro e w1 ⟨rfl, b1⟩)
    go_ret
    exact ⟨rfl, b1⟩
  by_cases h2 : (parseG zs v).2.2 = 2
  · have HQ : Hid (parseG zs v = (⟨0, 0, 0, 0, 0⟩, 0, 2)) := parseG_open h2
    clear h2
    go_enter Try.func4, Try.ntmps4
    go_upto_region 6 with (first
      | (go_at_call 7; refine (aliveG_any HK.out _).mono ?_; rintro e w1 ⟨rfl, b1⟩)
      | (go_at_call 12; refine (HK.out.parse A c w.heap.size zs v w1 b1.size HX.out (by omega) (row.below b1)).mono ?_; rw [HQ.out]; rintro e w2 ⟨rfl, b2⟩; replace b2 := b1.trans (b2.mono b1.size)))
    have HC := Lib.hid (cmd_stays w2 27 (.int .i32 0) (.int .i64 0) (.int .i32 0) (.int .i32 0) (.int .i32 0))
    have ba := b2.alloc b2.size (.cells #[.int .i32 0, .int .i64 0, .int .i32 0, .int .i32 0, .int .i32 0] 27)
    generalize w2.alloc (.cells #[.int .i32 0, .int .i64 0, .int .i32 0, .int .i32 0, .int .i32 0] 27) = wa at *
    obtain ⟨y0, y1, y2, y3, y4⟩ := HC.out wa (Below.refl _ _)
    go_wp2_with fail
    go_ret
    exact ⟨rfl, ba⟩
  obtain ⟨⟨hn1, hn2⟩, hst, hmore, hless⟩ := parseG_one_way h2
  obtain ⟨q, hq⟩ : ∃ q, parseG zs v = q := ⟨_, rfl⟩
  rw [hq] at hn1 hn2 hst hmore hless
  have HQ := Lib.hid hq
  have HM := Lib.hid hmore
  have HL := Lib.hid hless
  clear hq hmore hless h2
  obtain ⟨⟨r, cn, vb, m, a⟩, n, st⟩ := q
  dsimp only at hn1 hn2 hst
  have hn1' : ¬ (n : Int) < 1 := by omega
  have hn2' : ¬ (zs.length : Int) < (n : Int) := by omega
  have hc1 : (n : Int) ≤ (c : Int) := by omega
  have hc0 : (0 : Int) ≤ (n : Int) := by omega
  have HST := Lib.hid hst
  have HN2 := Lib.hid hn2
  have HCAP := Lib.hid hcap
  clear hst hn1 hn2 hcap
  have e2 : ((st : Int) == 2) = false := by rcases HST.out with h | h <;> (subst h; rfl)
  have e13 : ((st : Int) != 1 && (st : Int) != 3) = false := by rcases HST.out with h | h <;> (subst h; rfl)
  go_enter Try.func4, Try.ntmps4
  go_upto_region 6 with (first
    | (go_at_call 7; refine (aliveG_any HK.out _).mono ?_; rintro e w1 ⟨rfl, b1⟩)
    | (go_at_call 12; refine (HK.out.parse A c w.heap.size zs v w1 b1.size HX.out (by omega) (row.below b1)).mono ?_; rw [HQ.out]; rintro e w2 ⟨rfl, b2⟩; replace b2 := b1.trans (b2.mono b1.size)))
  have HC := Lib.hid (cmd_stays w2 27 (.int .i32 r) (.int .i64 cn) (.int .i32 vb) (.int .i32 m) (.int .i32 a))
  have ba := b2.alloc b2.size (.cells #[.int .i32 r, .int .i64 cn, .int .i32 vb, .int .i32 m, .int .i32 a] 27)
  generalize w2.alloc (.cells #[.int .i32 r, .int .i64 cn, .int .i32 vb, .int .i32 m, .int .i32 a] 27) = wa at *
  obtain ⟨y0, y1, y2, y3, y4⟩ := HC.out wa (Below.refl _ _)
  go_upto_region 8 with fail
  go_cut [58] (fun s wx => s = .bool false ∧ wx = wa)
  case first =>
    rcases HST.out with h | h
    · subst h
      go_wp2_with fail
      go_meet
      exact ⟨by have := HN2.out; simp; omega, rfl⟩
    · subst h
      go_wp2_with fail
      go_meet
      exact ⟨by have := HN2.out; simp; omega, rfl⟩
  case rest =>
  obtain ⟨rfl, rfl⟩ := hcut
  have HTL := Lib.hid (show (zs.take n).length = n by rw [List.length_take]; have := HN2.out; omega)
  have b1w := b2.trans ((Below.refl w2.heap.size w2).alloc (Nat.le_refl _) (.cells #[.int .i32 r, .int .i64 cn, .int .i32 vb, .int .i32 m, .int .i32 a] 27) |>.mono b2.size)
  obtain ⟨A3, c3, w3, e3, o3, b3⟩ := app_runes wc wc.heap.size none 0 [] (World.ownsRow_nil _ _ _ _) A c (zs.take n) (((row_first row n).below ba).more ba.size) (by rw [HTL.out]; simp; omega) (Nat.le_refl _)
  rw [List.nil_append, HTL.out] at e3 o3
  have hys : ys.length ≤ 4096 := by omega
  obtain ⟨A4, c4, w4, e4, o4, b4⟩ := app_runes w3 wc.heap.size A3 c3 (zs.take n) (by rw [HTL.out]; exact o3) A2 c2 ys (((row2.below ba).below (b3.mono ba.size)).more (Nat.le_trans ba.size b3.size)) (by rw [HTL.out]; omega) b3.size
  rw [HTL.out] at e4
  have H1 := Lib.hid e3
  have H2 := Lib.hid e4
  have R4 := Lib.hid (Row.of_own o4)
  have B4 := Lib.hid (b3.trans b4)
  have HP := Lib.hid (HM.out ys)
  have HLE := Lib.hid (show (zs.take n ++ ys).length ≤ 1000000 by rw [List.length_append, HTL.out]; omega)
  have HR : Hid (∀ z ∈ zs.take n ++ ys, -2147483648 ≤ z ∧ z ≤ 2147483647) := fun z hz => by
    rcases List.mem_append.1 hz with hz | hz
    · exact HX.out z (List.mem_of_mem_take hz)
    · exact HY.out z hz
  clear e3 e4 o3 o4 b3 b4 b1w
  generalize zs.take n ++ ys = L at *
  go_upto_region 10 with fail
  go_upto_region 11 with (first
    | (at_builtin; refine wpList_append_eq rfl (.const (.slice none 0 0)) (.tmp 62) 25 25 rfl _ _ rfl rfl (H1.out _) ?_)
    | (at_builtin; refine wpList_append_eq rfl (.tmp 63) (.tmp 64) 25 25 rfl _ _ rfl rfl (H2.out _) ?_)
    | (go_at_call 12; refine (HK.out.parse A4 c4 _ L v w4 (Nat.le_refl _) HR.out HLE.out R4.out).mono ?_; rw [HP.out]; rintro e w5 ⟨rfl, b5⟩; replace b5 := B4.out.trans (b5.mono B4.out.size)))
  have HD := Lib.hid (cmd_stays w5 27 (.int .i32 r) (.int .i64 cn) (.int .i32 vb) (.int .i32 m) (.int .i32 a))
  have HC2 := Lib.hid (HC.out _ (b5.alloc b5.size (.cells #[.int .i32 r, .int .i64 cn, .int .i32 vb, .int .i32 m, .int .i32 a] 27)))
  have bd := (ba.trans (b5.mono ba.size)).alloc (Nat.le_trans ba.size b5.size) (.cells #[.int .i32 r, .int .i64 cn, .int .i32 vb, .int .i32 m, .int .i32 a] 27)
  generalize w5.alloc (.cells #[.int .i32 r, .int .i64 cn, .int .i32 vb, .int .i32 m, .int .i32 a] 27) = wd at *
  obtain ⟨z0, z1, z2, z3, z4⟩ := HD.out wd (Below.refl _ _)
  clear y0 y1 y2 y3 y4
  obtain ⟨y0, y1, y2, y3, y4⟩ := HC2.out
  go_wp2_with fail
  go_loopw [85] (fun i wr => ∃ k : Nat, k ≤ n ∧ i = .int .i64 k ∧ Below w.heap.size w wr) (fun i _ => n - (intOf i).toNat)
  case atStart => exact ⟨0, Nat.zero_le _, rfl, bd⟩
  case round =>
    obtain ⟨k, hk, rfl, hb⟩ := hrel
    by_cases hlt : k < n
    · have hlt' : (k : Int) < (n : Int) := by omega
      have hk0 : (0 : Int) ≤ (k : Int) := by omega
      have hkc : (k : Int) ≤ (c : Int) := by omega
      have hkl : (zs.take k).length = k := by rw [List.length_take]; have := HN2.out; omega
      have PK : Hid (Calls Try.prog 12 #[.slice A k c, .bool v] wr (GivesCG wr (⟨0, 0, 0, 0, 0⟩, 0, 2))) := by
        have h := HK.out.parse A c w.heap.size (zs.take k) v wr hb.size (fun z hz => HX.out z (List.mem_of_mem_take hz)) (by rw [hkl]; omega) ((row_first row k).below hb)
        rw [hkl, parseG_open (HL.out k hlt)] at h
        exact h
      clear hkl
      go_wp2_with (go_at_call 12; refine PK.out.mono ?_; rintro e w6 ⟨rfl, b6⟩)
      go_roundw
      case rel => exact ⟨k + 1, by omega, by go_num, (hb.trans (b6.mono hb.size)).alloc (Nat.le_trans hb.size b6.size) _⟩
      case measure => simp [intOf]; omega
    · have hlt' : ¬ (k : Int) < (n : Int) := by omega
      go_wp2_with fail
      go_ret
      exact ⟨rfl, hb⟩
end Go.Proofs.Ytbfedakncdodcaa

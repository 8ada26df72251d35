/-
  The landed allowed: layer 15.
-/
import Derived.Test.YtgmeamefbfgbgaaDoorSuFind
import Derived.Test.YtgmeamefbfgbgaaDoorM06l
namespace Go.Proofs.YtgmeamefbfgbgaaDoor
open Go.RowKit
set_option maxRecDepth 100000

theorem nl_none {S : List UInt8} : decide (0 ≤ Lib.indexByte S 10) = !(decide (countL S = 1)) := by
  have h1 := countL_count S
  have hge := Lib.indexByte_ge S 10
  by_cases hi : Lib.indexByte S 10 = -1
  · have h0 : S.count 10 = 0 := by
      rw [List.count_eq_zero]
      intro hm
      obtain ⟨j, hj⟩ := List.mem_iff_getElem?.1 hm
      exact Lib.indexByte_none hi j hj
    rw [decide_eq_false (by omega), decide_eq_true (by omega)]
    rfl
  · obtain ⟨i, hi⟩ : ∃ i : Nat, Lib.indexByte S 10 = i := ⟨(Lib.indexByte S 10).toNat, by omega⟩
    obtain ⟨g1, g2⟩ := Lib.indexByte_some hi
    have h0 : 0 < S.count 10 := List.count_pos_iff.2 (List.mem_iff_getElem?.2 ⟨i, g1⟩)
    rw [decide_eq_true (by omega), decide_eq_false (by omega)]
    rfl
theorem nl_not {S : List UInt8} (h : countL S = 1) : (10 : UInt8) ∉ S := by
  have h1 := countL_count S
  exact List.count_eq_zero.1 (by omega)
set_option maxHeartbeats 2000000 in
theorem suAllowed_any (V : List UInt8) (hV : V.length ≤ 1000000) (A B : Int) (pat rep : List UInt8) (ev : Bool) (hp : pat.length ≤ 5000) (hr : rep.length ≤ 5000) (w : World) :
    Calls Tryd.prog 24 #[.string ⟨V.toArray⟩, .agg #[.int .i64 A, .int .i64 B, .string ⟨pat.toArray⟩, .string ⟨rep.toArray⟩, .bool ev]] w fun e w' => e = .returned (.bool (mayS V A B pat rep)) ∧ Below w.heap.size w w' := by
  have K := Lib.hid ((blk_box w (T := 28) (cs := #[.int .i64 A, .int .i64 B, .string ⟨pat.toArray⟩, .string ⟨rep.toArray⟩, .bool ev])).and (bel_box (Below.refl _ w) (.cells #[.int .i64 A, .int .i64 B, .string ⟨pat.toArray⟩, .string ⟨rep.toArray⟩, .bool ev] 28)))
  have HWH := Lib.hid (fun wx => linWhole_any V hV A B wx)
  have HCT := Lib.hid (fun wx => suContains_any pat wx)
  rw [nl_none] at HCT
  have hM : mayS V A B pat rep = (decide (0 ≤ A ∧ A ≤ B ∧ B < (countL V : Int) ∧ 0 < pat.length ∧ rep.length ≤ 4096) && decide (countL pat = 1)) := rfl
  generalize mayS V A B pat rep = res at *
  have HR := Lib.hid hM
  clear hM
  by_cases h1 : 0 ≤ A ∧ A ≤ B ∧ B < (countL V : Int)
  · have HG : Hid ((wholeL V A B).2 = 0) := by
      show _ = _
      rw [wholeL_good h1]
      split
      · rfl
      · split <;> rfl
    have hwl : ∃ W, wholeL V A B = W := ⟨_, rfl⟩
    obtain ⟨⟨⟨W1, W2⟩, W3⟩, hwl⟩ := hwl
    rw [hwl] at HWH HG
    obtain rfl : W3 = 0 := HG.out
    clear hwl HG
    go_enter Tryd.func24, Tryd.ntmps24
    go_upto_region 1 with fail
    generalize w.alloc (.cells #[.int .i64 A, .int .i64 B, .string ⟨pat.toArray⟩, .string ⟨rep.toArray⟩, .bool ev] 28) = wa at *
    obtain ⟨x0, x1, x2, x3, x4⟩ := su_job K.out.now.1
    go_upto_region 2 with (go_at_call 55; refine (HWH.out _).mono ?_; rintro e w2 ⟨rfl, b2⟩; have K2 := Lib.hid (K.out.step b2))
    clear x0 x1 x2 x3 x4
    obtain ⟨x0, x1, x2, x3, x4⟩ := su_job K2.out.now.1
    cases pat with
    | nil =>
      have HE : Hid (res = false) := by show _ = _; rw [HR.out, decide_eq_false (fun h => by have := h.2.2.2.1; simp at this)]; rfl
      go_wp2_with fail
      go_ret
      exact ⟨by (rw [HE.out]; first | done | rfl), K2.out.now.2⟩
    | cons b0 bs =>
      have g1 : ((b0 :: bs : List UInt8) == []) = false := rfl
      have HPL : Hid (0 < (b0 :: bs).length) := Nat.succ_pos _
      generalize (b0 :: bs : List UInt8) = pat at *
      by_cases h2 : countL pat = 1
      · have g2 : decide (countL pat = 1) = true := decide_eq_true h2
        rw [g2] at HCT
        by_cases h3 : rep.length ≤ 4096
        · have g3 : decide ((rep.length : Int) ≤ 4096) = true := decide_eq_true (by omega)
          have HE : Hid (res = true) := by show _ = _; rw [HR.out, g2, decide_eq_true ⟨h1.1, h1.2.1, h1.2.2, HPL.out, h3⟩]; rfl
          go_wp2_with (go_at_call 56; refine (HCT.out _).mono ?_; rintro e w3 ⟨rfl, rfl⟩)
          go_ret
          exact ⟨by (rw [HE.out]; first | done | rfl), K2.out.now.2⟩
        · have g3 : decide ((rep.length : Int) ≤ 4096) = false := decide_eq_false (by omega)
          have HE : Hid (res = false) := by show _ = _; rw [HR.out, decide_eq_false (fun h => h3 h.2.2.2.2)]; rfl
          go_wp2_with (go_at_call 56; refine (HCT.out _).mono ?_; rintro e w3 ⟨rfl, rfl⟩)
          go_ret
          exact ⟨by (rw [HE.out]; first | done | rfl), K2.out.now.2⟩
      · have g2 : decide (countL pat = 1) = false := decide_eq_false h2
        rw [g2] at HCT
        have HE : Hid (res = false) := by show _ = _; rw [HR.out, g2, Bool.and_false]
        go_wp2_with (go_at_call 56; refine (HCT.out _).mono ?_; rintro e w3 ⟨rfl, rfl⟩)
        go_ret
        exact ⟨by (rw [HE.out]; first | done | rfl), K2.out.now.2⟩
  · rw [wholeL_bad h1] at HWH
    have HE : Hid (res = false) := by show _ = _; rw [HR.out, decide_eq_false (fun h => h1 ⟨h.1, h.2.1, h.2.2.1⟩)]; rfl
    go_enter Tryd.func24, Tryd.ntmps24
    go_upto_region 1 with fail
    generalize w.alloc (.cells #[.int .i64 A, .int .i64 B, .string ⟨pat.toArray⟩, .string ⟨rep.toArray⟩, .bool ev] 28) = wa at *
    obtain ⟨x0, x1, x2, x3, x4⟩ := su_job K.out.now.1
    go_upto_region 2 with (go_at_call 55; refine (HWH.out _).mono ?_; rintro e w2 ⟨rfl, b2⟩; have K2 := Lib.hid (K.out.step b2))
    clear x0 x1 x2 x3 x4
    go_wp2_with fail
    go_ret
    exact ⟨by (rw [HE.out]; first | done | rfl), K2.out.now.2⟩
end Go.Proofs.YtgmeamefbfgbgaaDoor

/-
  Contracts: where a place goes, the document's and the landed: layer 7.
-/
import Derived.Test.YtmpliacojljchaaEdiApply
namespace Go.Proofs.Ytmpliacojljchaa
open Go.RowKit

set_option maxHeartbeats 2000000 in
theorem ediFollow_any (A A2 : Option Addr) (c d : Nat) (a : Int) (S : List UInt8) (l : List RunP) (X : List UInt8) (m : List RunP) (p : Int) (hp : -9223372036854775808 ≤ p ∧ p ≤ 9223372036854775807) (w : World) (h : Txu w A S l) (hX : Txu w A2 X m) :
    Calls Try.prog 17 #[.agg #[.int .i64 a, .string ⟨S.toArray⟩, .slice A l.length c, .string ⟨X.toArray⟩, .slice A2 m.length d], .int .i64 p] w fun e w' => e = .returned (.int .i64 (followE a S l X m p)) ∧ Below w.heap.size w w' := by
  have BX := Lib.hid ((blk_box (T := 29) (cs := #[.int .i64 a, .string ⟨S.toArray⟩, .slice A l.length c, .string ⟨X.toArray⟩, .slice A2 m.length d]) w).and (bel_box (Below.refl w.heap.size w) (.cells #[.int .i64 a, .string ⟨S.toArray⟩, .slice A l.length c, .string ⟨X.toArray⟩, .slice A2 m.length d] 29)))
  have K := Lib.hid (BX.out.and (((grow_txu h).and (grow_txu hX)).step BX.out.now.2))
  clear h hX BX
  obtain ⟨y0, y1, y2, y3, y4⟩ := ed_cells K.out.now.1.1
  by_cases hg : goodE a S l X m = true
  · have GA := (goodE_iff a S X l m).1 hg
    have ha0 : 0 ≤ a := GA.2.2.1
    have ha1 : a ≤ 4096 := GA.2.2.2
    have hs1 : S.length ≤ 4096 := (goodT_size GA.1).1
    have hx1 : X.length ≤ 4096 := (goodT_size GA.2.1).1
    clear GA
    by_cases h0 : p < 0
    · have HR : Hid (followE a S l X m p = p) := by show _ = _; unfold followE; rw [if_neg]; intro h; omega
      go_enter Try.func17, Try.ntmps17
      go_wp2_with (go_at_call 31; refine (ediGood_any A A2 c d a S X l m _ K.out.now.2.1 K.out.now.2.2).mono ?_; rw [hg]; rintro e w1 ⟨rfl, bb⟩; replace K := Lib.hid (K.out.step bb); clear bb y0 y1 y2 y3 y4; obtain ⟨y0, y1, y2, y3, y4⟩ := ed_cells K.out.now.1.1)
      all_goals go_ret
      all_goals exact ⟨by rw [HR.out]; first | rfl | (simp; done) | (simp; omega), K.out.now.1.2⟩
    · by_cases h1 : 4096 < p
      · have HR : Hid (followE a S l X m p = p) := by show _ = _; unfold followE; rw [if_neg]; intro h; omega
        go_enter Try.func17, Try.ntmps17
        go_wp2_with (go_at_call 31; refine (ediGood_any A A2 c d a S X l m _ K.out.now.2.1 K.out.now.2.2).mono ?_; rw [hg]; rintro e w1 ⟨rfl, bb⟩; replace K := Lib.hid (K.out.step bb); clear bb y0 y1 y2 y3 y4; obtain ⟨y0, y1, y2, y3, y4⟩ := ed_cells K.out.now.1.1)
        all_goals go_ret
        all_goals exact ⟨by rw [HR.out]; first | rfl | (simp; done) | (simp; omega), K.out.now.1.2⟩
      · by_cases h2 : p ≤ a
        · have HR : Hid (followE a S l X m p = p) := by show _ = _; unfold followE; rw [if_neg]; intro h; omega
          go_enter Try.func17, Try.ntmps17
          go_wp2_with (go_at_call 31; refine (ediGood_any A A2 c d a S X l m _ K.out.now.2.1 K.out.now.2.2).mono ?_; rw [hg]; rintro e w1 ⟨rfl, bb⟩; replace K := Lib.hid (K.out.step bb); clear bb y0 y1 y2 y3 y4; obtain ⟨y0, y1, y2, y3, y4⟩ := ed_cells K.out.now.1.1)
          all_goals go_ret
          all_goals exact ⟨by rw [HR.out]; first | rfl | (simp; done) | (simp; omega), K.out.now.1.2⟩
        · by_cases h3 : a + (S.length : Int) ≤ p
          · have HR : Hid (followE a S l X m p = p + (X.length : Int) - (S.length : Int)) := by show _ = _; unfold followE; rw [if_pos ⟨hg, by omega, by omega, by omega⟩, if_pos h3]
            go_enter Try.func17, Try.ntmps17
            go_wp2_with (go_at_call 31; refine (ediGood_any A A2 c d a S X l m _ K.out.now.2.1 K.out.now.2.2).mono ?_; rw [hg]; rintro e w1 ⟨rfl, bb⟩; replace K := Lib.hid (K.out.step bb); clear bb y0 y1 y2 y3 y4; obtain ⟨y0, y1, y2, y3, y4⟩ := ed_cells K.out.now.1.1)
            all_goals go_ret
            all_goals exact ⟨by rw [HR.out]; first | rfl | (simp; done) | (simp; omega), K.out.now.1.2⟩
          · have HR : Hid (followE a S l X m p = min p (a + (X.length : Int))) := by show _ = _; unfold followE; rw [if_pos ⟨hg, by omega, by omega, by omega⟩, if_neg h3]
            go_enter Try.func17, Try.ntmps17
            go_wp2_with (go_at_call 31; refine (ediGood_any A A2 c d a S X l m _ K.out.now.2.1 K.out.now.2.2).mono ?_; rw [hg]; rintro e w1 ⟨rfl, bb⟩; replace K := Lib.hid (K.out.step bb); clear bb y0 y1 y2 y3 y4; obtain ⟨y0, y1, y2, y3, y4⟩ := ed_cells K.out.now.1.1)
            all_goals go_ret
            all_goals exact ⟨by rw [HR.out]; first | rfl | (simp; done) | (simp; omega), K.out.now.1.2⟩
  · rw [Bool.not_eq_true] at hg
    have HR : Hid (followE a S l X m p = p) := by show _ = _; unfold followE; rw [if_neg]; intro h; rw [hg] at h; exact absurd h.1 (by simp)
    go_enter Try.func17, Try.ntmps17
    go_wp2_with (go_at_call 31; refine (ediGood_any A A2 c d a S X l m _ K.out.now.2.1 K.out.now.2.2).mono ?_; rw [hg]; rintro e w1 ⟨rfl, bb⟩; replace K := Lib.hid (K.out.step bb); clear bb y0 y1 y2 y3 y4; obtain ⟨y0, y1, y2, y3, y4⟩ := ed_cells K.out.now.1.1)
    all_goals go_ret
    all_goals exact ⟨by rw [HR.out]; first | rfl | (simp; done) | (simp; omega), K.out.now.1.2⟩

set_option maxHeartbeats 2000000 in
theorem refEFollow_any (A A2 : Option Addr) (c d : Nat) (a : Int) (S : List UInt8) (l : List RunP) (X : List UInt8) (m : List RunP) (p : Int) (hp : -9223372036854775808 ≤ p ∧ p ≤ 9223372036854775807) (w : World) (h : Txu w A S l) (hX : Txu w A2 X m) :
    Calls Try.prog 18 #[.agg #[.int .i64 a, .string ⟨S.toArray⟩, .slice A l.length c, .string ⟨X.toArray⟩, .slice A2 m.length d], .int .i64 p] w fun e w' => e = .returned (.int .i64 (followE a S l X m p)) ∧ Below w.heap.size w w' := by
  have BX := Lib.hid ((blk_box (T := 29) (cs := #[.int .i64 a, .string ⟨S.toArray⟩, .slice A l.length c, .string ⟨X.toArray⟩, .slice A2 m.length d]) w).and (bel_box (Below.refl w.heap.size w) (.cells #[.int .i64 a, .string ⟨S.toArray⟩, .slice A l.length c, .string ⟨X.toArray⟩, .slice A2 m.length d] 29)))
  have K := Lib.hid (BX.out.and (((grow_txu h).and (grow_txu hX)).step BX.out.now.2))
  clear h hX BX
  obtain ⟨y0, y1, y2, y3, y4⟩ := ed_cells K.out.now.1.1
  by_cases hg : goodE a S l X m = true
  · have GA := (goodE_iff a S X l m).1 hg
    have ha0 : 0 ≤ a := GA.2.2.1
    have ha1 : a ≤ 4096 := GA.2.2.2
    have hs1 : S.length ≤ 4096 := (goodT_size GA.1).1
    have hx1 : X.length ≤ 4096 := (goodT_size GA.2.1).1
    clear GA
    by_cases h0 : p < 0
    · have HR : Hid (followE a S l X m p = p) := by show _ = _; unfold followE; rw [if_neg]; intro h; omega
      go_enter Try.func18, Try.ntmps18
      go_wp2_with (go_at_call 19; refine (refEGood_any A A2 c d a S X l m _ K.out.now.2.1 K.out.now.2.2).mono ?_; rw [hg]; rintro e w1 ⟨rfl, bb⟩; replace K := Lib.hid (K.out.step bb); clear bb y0 y1 y2 y3 y4; obtain ⟨y0, y1, y2, y3, y4⟩ := ed_cells K.out.now.1.1)
      all_goals go_ret
      all_goals exact ⟨by rw [HR.out]; first | rfl | (simp; done) | (simp; omega), K.out.now.1.2⟩
    · by_cases h1 : 4096 < p
      · have HR : Hid (followE a S l X m p = p) := by show _ = _; unfold followE; rw [if_neg]; intro h; omega
        go_enter Try.func18, Try.ntmps18
        go_wp2_with (go_at_call 19; refine (refEGood_any A A2 c d a S X l m _ K.out.now.2.1 K.out.now.2.2).mono ?_; rw [hg]; rintro e w1 ⟨rfl, bb⟩; replace K := Lib.hid (K.out.step bb); clear bb y0 y1 y2 y3 y4; obtain ⟨y0, y1, y2, y3, y4⟩ := ed_cells K.out.now.1.1)
        all_goals go_ret
        all_goals exact ⟨by rw [HR.out]; first | rfl | (simp; done) | (simp; omega), K.out.now.1.2⟩
      · by_cases h2 : p ≤ a
        · have HR : Hid (followE a S l X m p = p) := by show _ = _; unfold followE; rw [if_neg]; intro h; omega
          go_enter Try.func18, Try.ntmps18
          go_wp2_with (go_at_call 19; refine (refEGood_any A A2 c d a S X l m _ K.out.now.2.1 K.out.now.2.2).mono ?_; rw [hg]; rintro e w1 ⟨rfl, bb⟩; replace K := Lib.hid (K.out.step bb); clear bb y0 y1 y2 y3 y4; obtain ⟨y0, y1, y2, y3, y4⟩ := ed_cells K.out.now.1.1)
          all_goals go_ret
          all_goals exact ⟨by rw [HR.out]; first | rfl | (simp; done) | (simp; omega), K.out.now.1.2⟩
        · by_cases h3 : a + (S.length : Int) ≤ p
          · have HR : Hid (followE a S l X m p = p + (X.length : Int) - (S.length : Int)) := by show _ = _; unfold followE; rw [if_pos ⟨hg, by omega, by omega, by omega⟩, if_pos h3]
            go_enter Try.func18, Try.ntmps18
            go_wp2_with (go_at_call 19; refine (refEGood_any A A2 c d a S X l m _ K.out.now.2.1 K.out.now.2.2).mono ?_; rw [hg]; rintro e w1 ⟨rfl, bb⟩; replace K := Lib.hid (K.out.step bb); clear bb y0 y1 y2 y3 y4; obtain ⟨y0, y1, y2, y3, y4⟩ := ed_cells K.out.now.1.1)
            all_goals go_ret
            all_goals exact ⟨by rw [HR.out]; first | rfl | (simp; done) | (simp; omega), K.out.now.1.2⟩
          · have HR : Hid (followE a S l X m p = min p (a + (X.length : Int))) := by show _ = _; unfold followE; rw [if_pos ⟨hg, by omega, by omega, by omega⟩, if_neg h3]
            go_enter Try.func18, Try.ntmps18
            go_wp2_with (go_at_call 19; refine (refEGood_any A A2 c d a S X l m _ K.out.now.2.1 K.out.now.2.2).mono ?_; rw [hg]; rintro e w1 ⟨rfl, bb⟩; replace K := Lib.hid (K.out.step bb); clear bb y0 y1 y2 y3 y4; obtain ⟨y0, y1, y2, y3, y4⟩ := ed_cells K.out.now.1.1)
            all_goals go_ret
            all_goals exact ⟨by rw [HR.out]; first | rfl | (simp; done) | (simp; omega), K.out.now.1.2⟩
  · rw [Bool.not_eq_true] at hg
    have HR : Hid (followE a S l X m p = p) := by show _ = _; unfold followE; rw [if_neg]; intro h; rw [hg] at h; exact absurd h.1 (by simp)
    go_enter Try.func18, Try.ntmps18
    go_wp2_with (go_at_call 19; refine (refEGood_any A A2 c d a S X l m _ K.out.now.2.1 K.out.now.2.2).mono ?_; rw [hg]; rintro e w1 ⟨rfl, bb⟩; replace K := Lib.hid (K.out.step bb); clear bb y0 y1 y2 y3 y4; obtain ⟨y0, y1, y2, y3, y4⟩ := ed_cells K.out.now.1.1)
    all_goals go_ret
    all_goals exact ⟨by rw [HR.out]; first | rfl | (simp; done) | (simp; omega), K.out.now.1.2⟩
end Go.Proofs.Ytmpliacojljchaa

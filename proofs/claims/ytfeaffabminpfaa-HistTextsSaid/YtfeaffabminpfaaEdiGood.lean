/-
  Contracts: is an edit good, is it short: layer 7.
-/
import Derived.Test.YtfeaffabminpfaaEdiWords
import Derived.Test.YtfeaffabminpfaaM04o
namespace Go.Proofs.Ytfeaffabminpfaa
open Go.RowKit

set_option maxHeartbeats 1000000 in
theorem refEGood_any (A A2 : Option Addr) (c d : Nat) (a : Int) (S X : List UInt8) (l m : List RunP) (w : World) (h : Txu w A S l) (hh : Txu w A2 X m) :
    Calls Try.prog 39 #[.agg #[.int .i64 a, .string ⟨S.toArray⟩, .slice A l.length c, .string ⟨X.toArray⟩, .slice A2 m.length d]] w fun e w' => e = .returned (.bool (goodE a S l X m)) ∧ Below w.heap.size w w' := by
  have K := Lib.hid ((blk_box (T := 34) (cs := #[.int .i64 a, .string ⟨S.toArray⟩, .slice A l.length c, .string ⟨X.toArray⟩, .slice A2 m.length d]) w).and ((bel_box (Below.refl w.heap.size w) (.cells #[.int .i64 a, .string ⟨S.toArray⟩, .slice A l.length c, .string ⟨X.toArray⟩, .slice A2 m.length d] 34)).and (((grow_txu h).alloc (.cells #[.int .i64 a, .string ⟨S.toArray⟩, .slice A l.length c, .string ⟨X.toArray⟩, .slice A2 m.length d] 34)).and ((grow_txu hh).alloc (.cells #[.int .i64 a, .string ⟨S.toArray⟩, .slice A l.length c, .string ⟨X.toArray⟩, .slice A2 m.length d] 34)))))
  clear h hh
  obtain ⟨y0, y1, y2, y3, y4⟩ := ed_cells K.out.now.1
  by_cases h1 : goodT S l = true
  · by_cases h2 : goodT X m = true
    · by_cases h3 : 0 ≤ a
      · by_cases h4 : a ≤ 4096
        · have HR : Hid (goodE a S l X m = true) := (goodE_iff _ _ _ _ _).2 ⟨h1, h2, h3, h4⟩
          go_enter Try.func39, Try.ntmps39
          go_wp2_with (first
            | (go_at_call_of 26 l; refine (refTGood_any A c _ S l _ (Nat.le_refl _) K.out.now.2.2.1).mono ?_; rw [h1]; rintro e w1 ⟨rfl, bb⟩; replace K := Lib.hid (K.out.step bb); clear y0 y1 y2 y3 y4 bb; obtain ⟨y0, y1, y2, y3, y4⟩ := ed_cells K.out.now.1)
            | (go_at_call_of 26 m; refine (refTGood_any A2 d _ X m _ (Nat.le_refl _) K.out.now.2.2.2).mono ?_; rw [h2]; rintro e w2 ⟨rfl, bb⟩; replace K := Lib.hid (K.out.step bb); clear y0 y1 y2 y3 y4 bb; obtain ⟨y0, y1, y2, y3, y4⟩ := ed_cells K.out.now.1))
          go_ret
          exact ⟨by rw [HR.out]; first | rfl | (simp [h3, h4]; done), K.out.now.2.1⟩
        · have HR : Hid (goodE a S l X m = false) := by show _ = _; rw [Bool.eq_false_iff]; exact fun h => h4 ((goodE_iff _ _ _ _ _).1 h).2.2.2
          go_enter Try.func39, Try.ntmps39
          go_wp2_with (first
            | (go_at_call_of 26 l; refine (refTGood_any A c _ S l _ (Nat.le_refl _) K.out.now.2.2.1).mono ?_; rw [h1]; rintro e w1 ⟨rfl, bb⟩; replace K := Lib.hid (K.out.step bb); clear y0 y1 y2 y3 y4 bb; obtain ⟨y0, y1, y2, y3, y4⟩ := ed_cells K.out.now.1)
            | (go_at_call_of 26 m; refine (refTGood_any A2 d _ X m _ (Nat.le_refl _) K.out.now.2.2.2).mono ?_; rw [h2]; rintro e w2 ⟨rfl, bb⟩; replace K := Lib.hid (K.out.step bb); clear y0 y1 y2 y3 y4 bb; obtain ⟨y0, y1, y2, y3, y4⟩ := ed_cells K.out.now.1))
          go_ret
          exact ⟨by rw [HR.out]; first | rfl | (simp; omega), K.out.now.2.1⟩
      · have HR : Hid (goodE a S l X m = false) := by show _ = _; rw [Bool.eq_false_iff]; exact fun h => h3 ((goodE_iff _ _ _ _ _).1 h).2.2.1
        go_enter Try.func39, Try.ntmps39
        go_wp2_with (first
          | (go_at_call_of 26 l; refine (refTGood_any A c _ S l _ (Nat.le_refl _) K.out.now.2.2.1).mono ?_; rw [h1]; rintro e w1 ⟨rfl, bb⟩; replace K := Lib.hid (K.out.step bb); clear y0 y1 y2 y3 y4 bb; obtain ⟨y0, y1, y2, y3, y4⟩ := ed_cells K.out.now.1)
          | (go_at_call_of 26 m; refine (refTGood_any A2 d _ X m _ (Nat.le_refl _) K.out.now.2.2.2).mono ?_; rw [h2]; rintro e w2 ⟨rfl, bb⟩; replace K := Lib.hid (K.out.step bb); clear y0 y1 y2 y3 y4 bb; obtain ⟨y0, y1, y2, y3, y4⟩ := ed_cells K.out.now.1))
        go_ret
        exact ⟨by rw [HR.out]; first | rfl | (simp; omega), K.out.now.2.1⟩
    · have HR : Hid (goodE a S l X m = false) := by show _ = _; rw [Bool.eq_false_iff]; exact fun h => h2 ((goodE_iff _ _ _ _ _).1 h).2.1
      rw [Bool.not_eq_true] at h2
      go_enter Try.func39, Try.ntmps39
      go_wp2_with (first
        | (go_at_call_of 26 l; refine (refTGood_any A c _ S l _ (Nat.le_refl _) K.out.now.2.2.1).mono ?_; rw [h1]; rintro e w1 ⟨rfl, bb⟩; replace K := Lib.hid (K.out.step bb); clear y0 y1 y2 y3 y4 bb; obtain ⟨y0, y1, y2, y3, y4⟩ := ed_cells K.out.now.1)
        | (go_at_call_of 26 m; refine (refTGood_any A2 d _ X m _ (Nat.le_refl _) K.out.now.2.2.2).mono ?_; rw [h2]; rintro e w2 ⟨rfl, bb⟩; replace K := Lib.hid (K.out.step bb); clear y0 y1 y2 y3 y4 bb; obtain ⟨y0, y1, y2, y3, y4⟩ := ed_cells K.out.now.1))
      go_ret
      exact ⟨by rw [HR.out]; first | rfl | (simp; omega), K.out.now.2.1⟩
  · have HR : Hid (goodE a S l X m = false) := by show _ = _; rw [Bool.eq_false_iff]; exact fun h => h1 ((goodE_iff _ _ _ _ _).1 h).1
    rw [Bool.not_eq_true] at h1
    go_enter Try.func39, Try.ntmps39
    go_wp2_with (go_at_call_of 26 l; refine (refTGood_any A c _ S l _ (Nat.le_refl _) K.out.now.2.2.1).mono ?_; rw [h1]; rintro e w1 ⟨rfl, bb⟩; replace K := Lib.hid (K.out.step bb); clear y0 y1 y2 y3 y4 bb; obtain ⟨y0, y1, y2, y3, y4⟩ := ed_cells K.out.now.1)
    go_ret
    exact ⟨by rw [HR.out]; first | rfl | (simp; omega), K.out.now.2.1⟩

set_option maxHeartbeats 1000000 in
theorem lawEFits_any (A A2 : Option Addr) (c d : Nat) (a : Int) (S X : List UInt8) (l m : List RunP) (w : World) (hS : S.length ≤ maxLen) (hl : l.length ≤ maxLen) (hX : X.length ≤ maxLen) (hm : m.length ≤ maxLen) :
    Calls Try.prog 11 #[.agg #[.int .i64 a, .string ⟨S.toArray⟩, .slice A l.length c, .string ⟨X.toArray⟩, .slice A2 m.length d]] w fun e w' => e = .returned (.bool (decide ((S.length ≤ 5000 ∧ l.length ≤ 5000) ∧ (X.length ≤ 5000 ∧ m.length ≤ 5000)))) ∧ Below w.heap.size w w' := by
  have K := Lib.hid ((blk_box (T := 34) (cs := #[.int .i64 a, .string ⟨S.toArray⟩, .slice A l.length c, .string ⟨X.toArray⟩, .slice A2 m.length d]) w).and (bel_box (Below.refl w.heap.size w) (.cells #[.int .i64 a, .string ⟨S.toArray⟩, .slice A l.length c, .string ⟨X.toArray⟩, .slice A2 m.length d] 34)))
  have L := Lib.hid (And.intro (And.intro hS hl) (And.intro hX hm))
  clear hS hl hX hm
  obtain ⟨y0, y1, y2, y3, y4⟩ := ed_cells K.out.now.1
  by_cases h1 : S.length ≤ 5000 ∧ l.length ≤ 5000
  · by_cases h2 : X.length ≤ 5000 ∧ m.length ≤ 5000
    · have HR := Lib.hid (decide_eq_true (And.intro h1 h2))
      have H1 := Lib.hid h1
      have H2 := Lib.hid h2
      clear h1 h2
      go_enter Try.func11, Try.ntmps11
      go_wp2_with (first
        | (go_at_call_of 30 l; refine (lawFits_any S L.out.1.1 l L.out.1.2 A c _).mono ?_; rw [decide_eq_true H1.out]; rintro e w1 ⟨rfl, bb⟩; replace K := Lib.hid (K.out.step bb); clear y0 y1 y2 y3 y4 bb; obtain ⟨y0, y1, y2, y3, y4⟩ := ed_cells K.out.now.1)
        | (go_at_call_of 30 m; refine (lawFits_any X L.out.2.1 m L.out.2.2 A2 d _).mono ?_; rw [decide_eq_true H2.out]; rintro e w2 ⟨rfl, bb⟩; replace K := Lib.hid (K.out.step bb); clear y0 y1 y2 y3 y4 bb; obtain ⟨y0, y1, y2, y3, y4⟩ := ed_cells K.out.now.1))
      go_ret
      exact ⟨by rw [HR.out]; first | rfl | (simp; omega), K.out.now.2⟩
    · have HR := Lib.hid (decide_eq_false (fun h : (S.length ≤ 5000 ∧ l.length ≤ 5000) ∧ (X.length ≤ 5000 ∧ m.length ≤ 5000) => h2 h.2))
      have H1 := Lib.hid h1
      have H2 := Lib.hid h2
      clear h1 h2
      go_enter Try.func11, Try.ntmps11
      go_wp2_with (first
        | (go_at_call_of 30 l; refine (lawFits_any S L.out.1.1 l L.out.1.2 A c _).mono ?_; rw [decide_eq_true H1.out]; rintro e w1 ⟨rfl, bb⟩; replace K := Lib.hid (K.out.step bb); clear y0 y1 y2 y3 y4 bb; obtain ⟨y0, y1, y2, y3, y4⟩ := ed_cells K.out.now.1)
        | (go_at_call_of 30 m; refine (lawFits_any X L.out.2.1 m L.out.2.2 A2 d _).mono ?_; rw [decide_eq_false H2.out]; rintro e w2 ⟨rfl, bb⟩; replace K := Lib.hid (K.out.step bb); clear y0 y1 y2 y3 y4 bb; obtain ⟨y0, y1, y2, y3, y4⟩ := ed_cells K.out.now.1))
      go_ret
      exact ⟨by rw [HR.out]; first | rfl | (simp; omega), K.out.now.2⟩
  · have HR := Lib.hid (decide_eq_false (fun h : (S.length ≤ 5000 ∧ l.length ≤ 5000) ∧ (X.length ≤ 5000 ∧ m.length ≤ 5000) => h1 h.1))
    have H1 := Lib.hid h1
    clear h1
    go_enter Try.func11, Try.ntmps11
    go_wp2_with (go_at_call_of 30 l; refine (lawFits_any S L.out.1.1 l L.out.1.2 A c _).mono ?_; rw [decide_eq_false H1.out]; rintro e w1 ⟨rfl, bb⟩; replace K := Lib.hid (K.out.step bb); clear y0 y1 y2 y3 y4 bb; obtain ⟨y0, y1, y2, y3, y4⟩ := ed_cells K.out.now.1)
    go_ret
    exact ⟨by rw [HR.out]; first | rfl | (simp; omega), K.out.now.2⟩
end Go.Proofs.Ytfeaffabminpfaa

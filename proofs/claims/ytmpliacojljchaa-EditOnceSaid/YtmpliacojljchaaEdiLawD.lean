/-
  For any text and two edits: behind both as one the text is what it is behind both (over what edit says): layer 7.
-/
import Derived.Test.YtmpliacojljchaaEdiLawA
namespace Go.Proofs.Ytmpliacojljchaa
open Go.RowKit

theorem okE_join {U X T Y : List UInt8} {q m k j : List RunP} (hU : U.length ≤ maxLen ∧ Fits q ∧ q.length ≤ maxLen) (hm : Fits m) (hj : Fits j) (a b : Int) : OkE (joinE a U q X m b T k Y j).1 := by
  have h0 : ∀ (w : World) (A : Option Addr), Row w w.heap.size A (flatR []) → Txu w A [] [] := fun w A hr => ⟨by simp, fun r hr => by simp at hr, by simp, hr⟩
  unfold joinE
  split
  · split
    · have hk := okT_apply (S := X) (l := m) (X := Y) (m := j) hm hj (b - a) T k
      exact ⟨fun w A hr => ⟨hU.1, hU.2.1, hU.2.2, hr⟩, fun w A hr => hk.txt hr⟩
    · exact ⟨h0, h0⟩
  · exact ⟨h0, h0⟩

set_option maxHeartbeats 4000000 in
theorem editOnce_walk (w : World) (A : Option Addr) (c : Nat) (S : List UInt8) (l : List RunP) (h : Txt w w.heap.size A S l) (a : Int) (U : List UInt8) (A2 : Option Addr) (q : List RunP) (d : Nat) (X : List UInt8) (A3 : Option Addr) (m : List RunP) (d3 : Nat) (hU : Txt w w.heap.size A2 U q) (hX : Txt w w.heap.size A3 X m)
    (b : Int) (T : List UInt8) (A4 : Option Addr) (k : List RunP) (d4 : Nat) (Y : List UInt8) (A5 : Option Addr) (j : List RunP) (d5 : Nat) (hT : Txt w w.heap.size A4 T k) (hY : Txt w w.heap.size A5 Y j) :
    Calls Try.prog 6 #[.agg #[.string ⟨S.toArray⟩, .slice A l.length c], .agg #[.int .i64 a, .string ⟨U.toArray⟩, .slice A2 q.length d, .string ⟨X.toArray⟩, .slice A3 m.length d3], .agg #[.int .i64 b, .string ⟨T.toArray⟩, .slice A4 k.length d4, .string ⟨Y.toArray⟩, .slice A5 j.length d5]] w fun e w' => e = .returned (.bool true) ∧ Below w.heap.size w w' := by
  have L := Lib.hid (And.intro h (And.intro hU (And.intro hX (And.intro hT hY))))
  have BX := Lib.hid (boxesE3 w 24 29 29 #[.string ⟨S.toArray⟩, .slice A l.length c] #[.int .i64 a, .string ⟨U.toArray⟩, .slice A2 q.length d, .string ⟨X.toArray⟩, .slice A3 m.length d3] #[.int .i64 b, .string ⟨T.toArray⟩, .slice A4 k.length d4, .string ⟨Y.toArray⟩, .slice A5 j.length d5])
  have K := Lib.hid (BX.out.and (((grow_txu h).and ((grow_txu hU).and ((grow_txu hX).and ((grow_txu hT).and (grow_txu hY))))).step BX.out.now.2.2.2))
  clear h hU hX hT hY BX
  obtain ⟨y0, y1⟩ := txt_cells K.out.now.1.1; obtain ⟨z0, z1, z2, z3, z4⟩ := ed_cells K.out.now.1.2.1; obtain ⟨u0, u1, u2, u3, u4⟩ := ed_cells K.out.now.1.2.2.1
  by_cases hfit : S.length ≤ 5000 ∧ l.length ≤ 5000
  · by_cases hfit2 : (U.length ≤ 5000 ∧ q.length ≤ 5000) ∧ (X.length ≤ 5000 ∧ m.length ≤ 5000)
    · by_cases hfit3 : (T.length ≤ 5000 ∧ k.length ≤ 5000) ∧ (Y.length ≤ 5000 ∧ j.length ≤ 5000)
      · obtain ⟨p1, hp1⟩ : ∃ p, joinE a U q X m b T k Y j = p := ⟨_, rfl⟩
        have O1 : Hid (OkE p1.1) := by show OkE _; rw [← hp1]; exact okE_join ⟨L.out.2.1.hS, L.out.2.1.hf, L.out.2.1.hl⟩ L.out.2.2.1.hf L.out.2.2.2.2.hf a b
        have P1 := Lib.hid hp1
        clear hp1
        obtain ⟨⟨x, W, i, Z, n⟩, is⟩ := p1
        obtain ⟨p2, hp2⟩ : ∃ p, applyE S l a U q X m = p := ⟨_, rfl⟩
        have O2 : Hid (OkT p2) := by show OkT _; rw [← hp2]; exact okT_apply L.out.1.hf L.out.2.2.1.hf _ _ _
        have P2 := Lib.hid hp2
        clear hp2
        obtain ⟨⟨V, r⟩, n1⟩ := p2
        obtain ⟨p3, hp3⟩ : ∃ p, applyE V r b T k Y j = p := ⟨_, rfl⟩
        have O3 : Hid (OkT p3) := by show OkT _; rw [← hp3]; exact okT_apply O2.out.2.1 L.out.2.2.2.2.hf _ _ _
        have P3 := Lib.hid hp3
        clear hp3
        obtain ⟨⟨V2, r2⟩, n2⟩ := p3
        have H1 := Lib.hid (decide_eq_true hfit)
        have H2 := Lib.hid (decide_eq_true hfit2)
        have H3 := Lib.hid (decide_eq_true hfit3)
        have hq5 : q.length ≤ 5000 := hfit2.1.2
        clear hfit hfit2 hfit3
        cases is with
        | false =>
          go_enter Try.func6, Try.ntmps6
          go_wp2_with (first
            | (go_at_call 9; refine (ediAlive_any _).mono ?_; rintro e w1 ⟨rfl, bb⟩; replace K := Lib.hid (K.out.step bb); clear y0 y1 z0 z1 z2 z3 z4 u0 u1 u2 u3 u4; clear bb; obtain ⟨y0, y1⟩ := txt_cells K.out.now.1.1; obtain ⟨z0, z1, z2, z3, z4⟩ := ed_cells K.out.now.1.2.1; obtain ⟨u0, u1, u2, u3, u4⟩ := ed_cells K.out.now.1.2.2.1)
            | (go_at_call 10; refine (lawFits_any S L.out.1.hS l L.out.1.hl A c _).mono ?_; rw [H1.out]; rintro e w2 ⟨rfl, bb⟩; replace K := Lib.hid (K.out.step bb); clear y0 y1 z0 z1 z2 z3 z4 u0 u1 u2 u3 u4; clear bb; obtain ⟨y0, y1⟩ := txt_cells K.out.now.1.1; obtain ⟨z0, z1, z2, z3, z4⟩ := ed_cells K.out.now.1.2.1; obtain ⟨u0, u1, u2, u3, u4⟩ := ed_cells K.out.now.1.2.2.1)
            | (go_at_call_of 16 q; refine (lawEFits_any A2 A3 d d3 a U X q m _ L.out.2.1.hS L.out.2.1.hl L.out.2.2.1.hS L.out.2.2.1.hl).mono ?_; rw [H2.out]; rintro e w3 ⟨rfl, bb⟩; replace K := Lib.hid (K.out.step bb); clear y0 y1 z0 z1 z2 z3 z4 u0 u1 u2 u3 u4; clear bb; obtain ⟨y0, y1⟩ := txt_cells K.out.now.1.1; obtain ⟨z0, z1, z2, z3, z4⟩ := ed_cells K.out.now.1.2.1; obtain ⟨u0, u1, u2, u3, u4⟩ := ed_cells K.out.now.1.2.2.1)
            | (go_at_call_of 16 k; refine (lawEFits_any A4 A5 d4 d5 b T Y k j _ L.out.2.2.2.1.hS L.out.2.2.2.1.hl L.out.2.2.2.2.hS L.out.2.2.2.2.hl).mono ?_; rw [H3.out]; rintro e w4 ⟨rfl, bb⟩; replace K := Lib.hid (K.out.step bb); clear y0 y1 z0 z1 z2 z3 z4 u0 u1 u2 u3 u4; clear bb; obtain ⟨y0, y1⟩ := txt_cells K.out.now.1.1; obtain ⟨z0, z1, z2, z3, z4⟩ := ed_cells K.out.now.1.2.1; obtain ⟨u0, u1, u2, u3, u4⟩ := ed_cells K.out.now.1.2.2.1)
            | (go_at_call 22; refine (ediJoin_any A2 A3 A4 A5 d d3 d4 d5 a U q X m b T k Y j (by omega) _ K.out.now.2.2.1 K.out.now.2.2.2.1 K.out.now.2.2.2.2.1 K.out.now.2.2.2.2.2).mono ?_; rw [P1.out]; rintro e w5 ⟨A6, c6, A7, c7, rfl, r6, r7, bb⟩; dsimp only at r6 r7 ⊢; replace K := Lib.hid ((K.out.step bb).evar (a := x) (c := c6) (d := c7) (O1.out.1 _ _ r6) (O1.out.2 _ _ r7)); clear y0 y1 z0 z1 z2 z3 z4 u0 u1 u2 u3 u4; clear bb r6 r7; obtain ⟨y0, y1⟩ := txt_cells K.out.now.2.1.1; obtain ⟨z0, z1, z2, z3, z4⟩ := ed_cells K.out.now.2.1.2.1; obtain ⟨u0, u1, u2, u3, u4⟩ := ed_cells K.out.now.2.1.2.2.1)
            | (go_at_call_of 20 q; refine (ediApply_any A A2 A3 c d d3 S l a U q X m _ K.out.now.2.2.1 K.out.now.2.2.2.1 K.out.now.2.2.2.2.1).mono ?_; rw [P2.out]; rintro e w6 ⟨A8, c8, rfl, own, bb⟩; dsimp only at own ⊢; replace K := Lib.hid ((K.out.step bb).var (c := c8) (O2.out.txt (Row.of_own own))); clear y0 y1 z0 z1 z2 z3 z4 u0 u1 u2 u3 u4; clear own bb; obtain ⟨y0, y1⟩ := txt_cells K.out.now.2.2.1.1; obtain ⟨z0, z1, z2, z3, z4⟩ := ed_cells K.out.now.2.2.1.2.1; obtain ⟨u0, u1, u2, u3, u4⟩ := ed_cells K.out.now.2.2.1.2.2.1; obtain ⟨v0, v1⟩ := txt_cells K.out.now.1.1)
            | (go_at_call_of 20 k; refine (ediApply_any A8 A4 A5 c8 d4 d5 V r b T k Y j _ K.out.now.1.2 K.out.now.2.2.2.2.2.2.1 K.out.now.2.2.2.2.2.2.2).mono ?_; rw [P3.out]; rintro e w7 ⟨A9, c9, rfl, own, bb⟩; dsimp only at own ⊢; replace K := Lib.hid ((K.out.step bb).var (c := c9) (O3.out.txt (Row.of_own own))); clear y0 y1 z0 z1 z2 z3 z4 u0 u1 u2 u3 u4; clear own bb v0 v1; obtain ⟨y0, y1⟩ := txt_cells K.out.now.2.2.2.1.1; obtain ⟨z0, z1, z2, z3, z4⟩ := ed_cells K.out.now.2.2.2.1.2.1; obtain ⟨u0, u1, u2, u3, u4⟩ := ed_cells K.out.now.2.2.2.1.2.2.1; obtain ⟨x0, x1, x2, x3, x4⟩ := ed_cells K.out.now.2.2.1.1))
          all_goals go_ret
          all_goals exact ⟨by first | rfl | (simp; done), K.out.now.2.2.2.1.2.2.2⟩
        | true =>
          by_cases h1 : n1 = 0
          · subst h1
            by_cases h2 : n2 = 0
            · subst h2
              have P4 : Hid (applyE S l x W i Z n = ((V2, r2), 0)) := once_ok P2.out P3.out P1.out
              go_enter Try.func6, Try.ntmps6
              go_wp2_with (first
                | (go_at_call 9; refine (ediAlive_any _).mono ?_; rintro e w1 ⟨rfl, bb⟩; replace K := Lib.hid (K.out.step bb); clear y0 y1 z0 z1 z2 z3 z4 u0 u1 u2 u3 u4; clear bb; obtain ⟨y0, y1⟩ := txt_cells K.out.now.1.1; obtain ⟨z0, z1, z2, z3, z4⟩ := ed_cells K.out.now.1.2.1; obtain ⟨u0, u1, u2, u3, u4⟩ := ed_cells K.out.now.1.2.2.1)
                | (go_at_call 10; refine (lawFits_any S L.out.1.hS l L.out.1.hl A c _).mono ?_; rw [H1.out]; rintro e w2 ⟨rfl, bb⟩; replace K := Lib.hid (K.out.step bb); clear y0 y1 z0 z1 z2 z3 z4 u0 u1 u2 u3 u4; clear bb; obtain ⟨y0, y1⟩ := txt_cells K.out.now.1.1; obtain ⟨z0, z1, z2, z3, z4⟩ := ed_cells K.out.now.1.2.1; obtain ⟨u0, u1, u2, u3, u4⟩ := ed_cells K.out.now.1.2.2.1)
                | (go_at_call_of 16 q; refine (lawEFits_any A2 A3 d d3 a U X q m _ L.out.2.1.hS L.out.2.1.hl L.out.2.2.1.hS L.out.2.2.1.hl).mono ?_; rw [H2.out]; rintro e w3 ⟨rfl, bb⟩; replace K := Lib.hid (K.out.step bb); clear y0 y1 z0 z1 z2 z3 z4 u0 u1 u2 u3 u4; clear bb; obtain ⟨y0, y1⟩ := txt_cells K.out.now.1.1; obtain ⟨z0, z1, z2, z3, z4⟩ := ed_cells K.out.now.1.2.1; obtain ⟨u0, u1, u2, u3, u4⟩ := ed_cells K.out.now.1.2.2.1)
                | (go_at_call_of 16 k; refine (lawEFits_any A4 A5 d4 d5 b T Y k j _ L.out.2.2.2.1.hS L.out.2.2.2.1.hl L.out.2.2.2.2.hS L.out.2.2.2.2.hl).mono ?_; rw [H3.out]; rintro e w4 ⟨rfl, bb⟩; replace K := Lib.hid (K.out.step bb); clear y0 y1 z0 z1 z2 z3 z4 u0 u1 u2 u3 u4; clear bb; obtain ⟨y0, y1⟩ := txt_cells K.out.now.1.1; obtain ⟨z0, z1, z2, z3, z4⟩ := ed_cells K.out.now.1.2.1; obtain ⟨u0, u1, u2, u3, u4⟩ := ed_cells K.out.now.1.2.2.1)
                | (go_at_call 22; refine (ediJoin_any A2 A3 A4 A5 d d3 d4 d5 a U q X m b T k Y j (by omega) _ K.out.now.2.2.1 K.out.now.2.2.2.1 K.out.now.2.2.2.2.1 K.out.now.2.2.2.2.2).mono ?_; rw [P1.out]; rintro e w5 ⟨A6, c6, A7, c7, rfl, r6, r7, bb⟩; dsimp only at r6 r7 ⊢; replace K := Lib.hid ((K.out.step bb).evar (a := x) (c := c6) (d := c7) (O1.out.1 _ _ r6) (O1.out.2 _ _ r7)); clear y0 y1 z0 z1 z2 z3 z4 u0 u1 u2 u3 u4; clear bb r6 r7; obtain ⟨y0, y1⟩ := txt_cells K.out.now.2.1.1; obtain ⟨z0, z1, z2, z3, z4⟩ := ed_cells K.out.now.2.1.2.1; obtain ⟨u0, u1, u2, u3, u4⟩ := ed_cells K.out.now.2.1.2.2.1)
                | (go_at_call_of 20 q; refine (ediApply_any A A2 A3 c d d3 S l a U q X m _ K.out.now.2.2.1 K.out.now.2.2.2.1 K.out.now.2.2.2.2.1).mono ?_; rw [P2.out]; rintro e w6 ⟨A8, c8, rfl, own, bb⟩; dsimp only at own ⊢; replace K := Lib.hid ((K.out.step bb).var (c := c8) (O2.out.txt (Row.of_own own))); clear y0 y1 z0 z1 z2 z3 z4 u0 u1 u2 u3 u4; clear own bb; obtain ⟨y0, y1⟩ := txt_cells K.out.now.2.2.1.1; obtain ⟨z0, z1, z2, z3, z4⟩ := ed_cells K.out.now.2.2.1.2.1; obtain ⟨u0, u1, u2, u3, u4⟩ := ed_cells K.out.now.2.2.1.2.2.1; obtain ⟨v0, v1⟩ := txt_cells K.out.now.1.1)
                | (go_at_call_of 20 k; refine (ediApply_any A8 A4 A5 c8 d4 d5 V r b T k Y j _ K.out.now.1.2 K.out.now.2.2.2.2.2.2.1 K.out.now.2.2.2.2.2.2.2).mono ?_; rw [P3.out]; rintro e w7 ⟨A9, c9, rfl, own, bb⟩; dsimp only at own ⊢; replace K := Lib.hid ((K.out.step bb).var (c := c9) (O3.out.txt (Row.of_own own))); clear y0 y1 z0 z1 z2 z3 z4 u0 u1 u2 u3 u4; clear own bb v0 v1; obtain ⟨y0, y1⟩ := txt_cells K.out.now.2.2.2.1.1; obtain ⟨z0, z1, z2, z3, z4⟩ := ed_cells K.out.now.2.2.2.1.2.1; obtain ⟨u0, u1, u2, u3, u4⟩ := ed_cells K.out.now.2.2.2.1.2.2.1; obtain ⟨x0, x1, x2, x3, x4⟩ := ed_cells K.out.now.2.2.1.1)
                | (go_at_call_of 20 i; refine (ediApply_any A A6 A7 c c6 c7 S l x W i Z n _ K.out.now.2.2.2.2.1 K.out.now.2.2.1.2.1 K.out.now.2.2.1.2.2).mono ?_; rw [P4.out]; rintro e w8 ⟨A10, c10, rfl, own, bb⟩; dsimp only at own ⊢; replace K := Lib.hid ((K.out.step bb).var (c := c10) (O3.out.txt (Row.of_own own))); clear y0 y1 z0 z1 z2 z3 z4 u0 u1 u2 u3 u4; clear own bb x0 x1 x2 x3 x4; obtain ⟨v0, v1⟩ := txt_cells K.out.now.1.1; obtain ⟨v2, v3⟩ := txt_cells K.out.now.2.1.1)
                | (go_at_call 21; refine (refTSame_any A9 A10 c9 c10 _ _ V2 V2 r2 r2 _ (Nat.le_refl _) (Nat.le_refl _) K.out.now.2.1.2 K.out.now.1.2).mono ?_; rw [decide_eq_true ⟨rfl, rfl⟩]; rintro e w9 ⟨rfl, bb⟩; replace K := Lib.hid (K.out.step bb); clear bb))
              go_ret
              exact ⟨rfl, K.out.now.2.2.2.2.1.2.2.2⟩
            · have h2' : ((n2 : Int) == 0) = false := by simp; omega
              clear h2
              go_enter Try.func6, Try.ntmps6
              go_wp2_with (first
                | (go_at_call 9; refine (ediAlive_any _).mono ?_; rintro e w1 ⟨rfl, bb⟩; replace K := Lib.hid (K.out.step bb); clear y0 y1 z0 z1 z2 z3 z4 u0 u1 u2 u3 u4; clear bb; obtain ⟨y0, y1⟩ := txt_cells K.out.now.1.1; obtain ⟨z0, z1, z2, z3, z4⟩ := ed_cells K.out.now.1.2.1; obtain ⟨u0, u1, u2, u3, u4⟩ := ed_cells K.out.now.1.2.2.1)
                | (go_at_call 10; refine (lawFits_any S L.out.1.hS l L.out.1.hl A c _).mono ?_; rw [H1.out]; rintro e w2 ⟨rfl, bb⟩; replace K := Lib.hid (K.out.step bb); clear y0 y1 z0 z1 z2 z3 z4 u0 u1 u2 u3 u4; clear bb; obtain ⟨y0, y1⟩ := txt_cells K.out.now.1.1; obtain ⟨z0, z1, z2, z3, z4⟩ := ed_cells K.out.now.1.2.1; obtain ⟨u0, u1, u2, u3, u4⟩ := ed_cells K.out.now.1.2.2.1)
                | (go_at_call_of 16 q; refine (lawEFits_any A2 A3 d d3 a U X q m _ L.out.2.1.hS L.out.2.1.hl L.out.2.2.1.hS L.out.2.2.1.hl).mono ?_; rw [H2.out]; rintro e w3 ⟨rfl, bb⟩; replace K := Lib.hid (K.out.step bb); clear y0 y1 z0 z1 z2 z3 z4 u0 u1 u2 u3 u4; clear bb; obtain ⟨y0, y1⟩ := txt_cells K.out.now.1.1; obtain ⟨z0, z1, z2, z3, z4⟩ := ed_cells K.out.now.1.2.1; obtain ⟨u0, u1, u2, u3, u4⟩ := ed_cells K.out.now.1.2.2.1)
                | (go_at_call_of 16 k; refine (lawEFits_any A4 A5 d4 d5 b T Y k j _ L.out.2.2.2.1.hS L.out.2.2.2.1.hl L.out.2.2.2.2.hS L.out.2.2.2.2.hl).mono ?_; rw [H3.out]; rintro e w4 ⟨rfl, bb⟩; replace K := Lib.hid (K.out.step bb); clear y0 y1 z0 z1 z2 z3 z4 u0 u1 u2 u3 u4; clear bb; obtain ⟨y0, y1⟩ := txt_cells K.out.now.1.1; obtain ⟨z0, z1, z2, z3, z4⟩ := ed_cells K.out.now.1.2.1; obtain ⟨u0, u1, u2, u3, u4⟩ := ed_cells K.out.now.1.2.2.1)
                | (go_at_call 22; refine (ediJoin_any A2 A3 A4 A5 d d3 d4 d5 a U q X m b T k Y j (by omega) _ K.out.now.2.2.1 K.out.now.2.2.2.1 K.out.now.2.2.2.2.1 K.out.now.2.2.2.2.2).mono ?_; rw [P1.out]; rintro e w5 ⟨A6, c6, A7, c7, rfl, r6, r7, bb⟩; dsimp only at r6 r7 ⊢; replace K := Lib.hid ((K.out.step bb).evar (a := x) (c := c6) (d := c7) (O1.out.1 _ _ r6) (O1.out.2 _ _ r7)); clear y0 y1 z0 z1 z2 z3 z4 u0 u1 u2 u3 u4; clear bb r6 r7; obtain ⟨y0, y1⟩ := txt_cells K.out.now.2.1.1; obtain ⟨z0, z1, z2, z3, z4⟩ := ed_cells K.out.now.2.1.2.1; obtain ⟨u0, u1, u2, u3, u4⟩ := ed_cells K.out.now.2.1.2.2.1)
                | (go_at_call_of 20 q; refine (ediApply_any A A2 A3 c d d3 S l a U q X m _ K.out.now.2.2.1 K.out.now.2.2.2.1 K.out.now.2.2.2.2.1).mono ?_; rw [P2.out]; rintro e w6 ⟨A8, c8, rfl, own, bb⟩; dsimp only at own ⊢; replace K := Lib.hid ((K.out.step bb).var (c := c8) (O2.out.txt (Row.of_own own))); clear y0 y1 z0 z1 z2 z3 z4 u0 u1 u2 u3 u4; clear own bb; obtain ⟨y0, y1⟩ := txt_cells K.out.now.2.2.1.1; obtain ⟨z0, z1, z2, z3, z4⟩ := ed_cells K.out.now.2.2.1.2.1; obtain ⟨u0, u1, u2, u3, u4⟩ := ed_cells K.out.now.2.2.1.2.2.1; obtain ⟨v0, v1⟩ := txt_cells K.out.now.1.1)
                | (go_at_call_of 20 k; refine (ediApply_any A8 A4 A5 c8 d4 d5 V r b T k Y j _ K.out.now.1.2 K.out.now.2.2.2.2.2.2.1 K.out.now.2.2.2.2.2.2.2).mono ?_; rw [P3.out]; rintro e w7 ⟨A9, c9, rfl, own, bb⟩; dsimp only at own ⊢; replace K := Lib.hid ((K.out.step bb).var (c := c9) (O3.out.txt (Row.of_own own))); clear y0 y1 z0 z1 z2 z3 z4 u0 u1 u2 u3 u4; clear own bb v0 v1; obtain ⟨y0, y1⟩ := txt_cells K.out.now.2.2.2.1.1; obtain ⟨z0, z1, z2, z3, z4⟩ := ed_cells K.out.now.2.2.2.1.2.1; obtain ⟨u0, u1, u2, u3, u4⟩ := ed_cells K.out.now.2.2.2.1.2.2.1; obtain ⟨x0, x1, x2, x3, x4⟩ := ed_cells K.out.now.2.2.1.1))
              all_goals go_ret
              all_goals exact ⟨by first | rfl | (simp; done), K.out.now.2.2.2.1.2.2.2⟩
          · have h1' : ((n1 : Int) == 0) = false := by simp; omega
            clear h1
            go_enter Try.func6, Try.ntmps6
            go_wp2_with (first
              | (go_at_call 9; refine (ediAlive_any _).mono ?_; rintro e w1 ⟨rfl, bb⟩; replace K := Lib.hid (K.out.step bb); clear y0 y1 z0 z1 z2 z3 z4 u0 u1 u2 u3 u4; clear bb; obtain ⟨y0, y1⟩ := txt_cells K.out.now.1.1; obtain ⟨z0, z1, z2, z3, z4⟩ := ed_cells K.out.now.1.2.1; obtain ⟨u0, u1, u2, u3, u4⟩ := ed_cells K.out.now.1.2.2.1)
              | (go_at_call 10; refine (lawFits_any S L.out.1.hS l L.out.1.hl A c _).mono ?_; rw [H1.out]; rintro e w2 ⟨rfl, bb⟩; replace K := Lib.hid (K.out.step bb); clear y0 y1 z0 z1 z2 z3 z4 u0 u1 u2 u3 u4; clear bb; obtain ⟨y0, y1⟩ := txt_cells K.out.now.1.1; obtain ⟨z0, z1, z2, z3, z4⟩ := ed_cells K.out.now.1.2.1; obtain ⟨u0, u1, u2, u3, u4⟩ := ed_cells K.out.now.1.2.2.1)
              | (go_at_call_of 16 q; refine (lawEFits_any A2 A3 d d3 a U X q m _ L.out.2.1.hS L.out.2.1.hl L.out.2.2.1.hS L.out.2.2.1.hl).mono ?_; rw [H2.out]; rintro e w3 ⟨rfl, bb⟩; replace K := Lib.hid (K.out.step bb); clear y0 y1 z0 z1 z2 z3 z4 u0 u1 u2 u3 u4; clear bb; obtain ⟨y0, y1⟩ := txt_cells K.out.now.1.1; obtain ⟨z0, z1, z2, z3, z4⟩ := ed_cells K.out.now.1.2.1; obtain ⟨u0, u1, u2, u3, u4⟩ := ed_cells K.out.now.1.2.2.1)
              | (go_at_call_of 16 k; refine (lawEFits_any A4 A5 d4 d5 b T Y k j _ L.out.2.2.2.1.hS L.out.2.2.2.1.hl L.out.2.2.2.2.hS L.out.2.2.2.2.hl).mono ?_; rw [H3.out]; rintro e w4 ⟨rfl, bb⟩; replace K := Lib.hid (K.out.step bb); clear y0 y1 z0 z1 z2 z3 z4 u0 u1 u2 u3 u4; clear bb; obtain ⟨y0, y1⟩ := txt_cells K.out.now.1.1; obtain ⟨z0, z1, z2, z3, z4⟩ := ed_cells K.out.now.1.2.1; obtain ⟨u0, u1, u2, u3, u4⟩ := ed_cells K.out.now.1.2.2.1)
              | (go_at_call 22; refine (ediJoin_any A2 A3 A4 A5 d d3 d4 d5 a U q X m b T k Y j (by omega) _ K.out.now.2.2.1 K.out.now.2.2.2.1 K.out.now.2.2.2.2.1 K.out.now.2.2.2.2.2).mono ?_; rw [P1.out]; rintro e w5 ⟨A6, c6, A7, c7, rfl, r6, r7, bb⟩; dsimp only at r6 r7 ⊢; replace K := Lib.hid ((K.out.step bb).evar (a := x) (c := c6) (d := c7) (O1.out.1 _ _ r6) (O1.out.2 _ _ r7)); clear y0 y1 z0 z1 z2 z3 z4 u0 u1 u2 u3 u4; clear bb r6 r7; obtain ⟨y0, y1⟩ := txt_cells K.out.now.2.1.1; obtain ⟨z0, z1, z2, z3, z4⟩ := ed_cells K.out.now.2.1.2.1; obtain ⟨u0, u1, u2, u3, u4⟩ := ed_cells K.out.now.2.1.2.2.1)
              | (go_at_call_of 20 q; refine (ediApply_any A A2 A3 c d d3 S l a U q X m _ K.out.now.2.2.1 K.out.now.2.2.2.1 K.out.now.2.2.2.2.1).mono ?_; rw [P2.out]; rintro e w6 ⟨A8, c8, rfl, own, bb⟩; dsimp only at own ⊢; replace K := Lib.hid ((K.out.step bb).var (c := c8) (O2.out.txt (Row.of_own own))); clear y0 y1 z0 z1 z2 z3 z4 u0 u1 u2 u3 u4; clear own bb; obtain ⟨y0, y1⟩ := txt_cells K.out.now.2.2.1.1; obtain ⟨z0, z1, z2, z3, z4⟩ := ed_cells K.out.now.2.2.1.2.1; obtain ⟨u0, u1, u2, u3, u4⟩ := ed_cells K.out.now.2.2.1.2.2.1; obtain ⟨v0, v1⟩ := txt_cells K.out.now.1.1)
              | (go_at_call_of 20 k; refine (ediApply_any A8 A4 A5 c8 d4 d5 V r b T k Y j _ K.out.now.1.2 K.out.now.2.2.2.2.2.2.1 K.out.now.2.2.2.2.2.2.2).mono ?_; rw [P3.out]; rintro e w7 ⟨A9, c9, rfl, own, bb⟩; dsimp only at own ⊢; replace K := Lib.hid ((K.out.step bb).var (c := c9) (O3.out.txt (Row.of_own own))); clear y0 y1 z0 z1 z2 z3 z4 u0 u1 u2 u3 u4; clear own bb v0 v1; obtain ⟨y0, y1⟩ := txt_cells K.out.now.2.2.2.1.1; obtain ⟨z0, z1, z2, z3, z4⟩ := ed_cells K.out.now.2.2.2.1.2.1; obtain ⟨u0, u1, u2, u3, u4⟩ := ed_cells K.out.now.2.2.2.1.2.2.1; obtain ⟨x0, x1, x2, x3, x4⟩ := ed_cells K.out.now.2.2.1.1))
            all_goals go_ret
            all_goals exact ⟨by first | rfl | (simp; done), K.out.now.2.2.2.1.2.2.2⟩
      · have H1 := Lib.hid (decide_eq_true hfit)
        have H2 := Lib.hid (decide_eq_true hfit2)
        have H3 := Lib.hid (decide_eq_false hfit3)
        clear hfit hfit2 hfit3
        go_enter Try.func6, Try.ntmps6
        go_wp2_with (first
          | (go_at_call 9; refine (ediAlive_any _).mono ?_; rintro e w1 ⟨rfl, bb⟩; replace K := Lib.hid (K.out.step bb); clear y0 y1 z0 z1 z2 z3 z4 u0 u1 u2 u3 u4; clear bb; obtain ⟨y0, y1⟩ := txt_cells K.out.now.1.1; obtain ⟨z0, z1, z2, z3, z4⟩ := ed_cells K.out.now.1.2.1; obtain ⟨u0, u1, u2, u3, u4⟩ := ed_cells K.out.now.1.2.2.1)
          | (go_at_call 10; refine (lawFits_any S L.out.1.hS l L.out.1.hl A c _).mono ?_; rw [H1.out]; rintro e w2 ⟨rfl, bb⟩; replace K := Lib.hid (K.out.step bb); clear y0 y1 z0 z1 z2 z3 z4 u0 u1 u2 u3 u4; clear bb; obtain ⟨y0, y1⟩ := txt_cells K.out.now.1.1; obtain ⟨z0, z1, z2, z3, z4⟩ := ed_cells K.out.now.1.2.1; obtain ⟨u0, u1, u2, u3, u4⟩ := ed_cells K.out.now.1.2.2.1)
          | (go_at_call_of 16 q; refine (lawEFits_any A2 A3 d d3 a U X q m _ L.out.2.1.hS L.out.2.1.hl L.out.2.2.1.hS L.out.2.2.1.hl).mono ?_; rw [H2.out]; rintro e w3 ⟨rfl, bb⟩; replace K := Lib.hid (K.out.step bb); clear y0 y1 z0 z1 z2 z3 z4 u0 u1 u2 u3 u4; clear bb; obtain ⟨y0, y1⟩ := txt_cells K.out.now.1.1; obtain ⟨z0, z1, z2, z3, z4⟩ := ed_cells K.out.now.1.2.1; obtain ⟨u0, u1, u2, u3, u4⟩ := ed_cells K.out.now.1.2.2.1)
          | (go_at_call_of 16 k; refine (lawEFits_any A4 A5 d4 d5 b T Y k j _ L.out.2.2.2.1.hS L.out.2.2.2.1.hl L.out.2.2.2.2.hS L.out.2.2.2.2.hl).mono ?_; rw [H3.out]; rintro e w4 ⟨rfl, bb⟩; replace K := Lib.hid (K.out.step bb); clear y0 y1 z0 z1 z2 z3 z4 u0 u1 u2 u3 u4; clear bb; obtain ⟨y0, y1⟩ := txt_cells K.out.now.1.1; obtain ⟨z0, z1, z2, z3, z4⟩ := ed_cells K.out.now.1.2.1; obtain ⟨u0, u1, u2, u3, u4⟩ := ed_cells K.out.now.1.2.2.1))
        go_ret
        exact ⟨rfl, K.out.now.1.2.2.2⟩
    · have H1 := Lib.hid (decide_eq_true hfit)
      have H2 := Lib.hid (decide_eq_false hfit2)
      clear hfit hfit2
      go_enter Try.func6, Try.ntmps6
      go_wp2_with (first
        | (go_at_call 9; refine (ediAlive_any _).mono ?_; rintro e w1 ⟨rfl, bb⟩; replace K := Lib.hid (K.out.step bb); clear y0 y1 z0 z1 z2 z3 z4 u0 u1 u2 u3 u4; clear bb; obtain ⟨y0, y1⟩ := txt_cells K.out.now.1.1; obtain ⟨z0, z1, z2, z3, z4⟩ := ed_cells K.out.now.1.2.1; obtain ⟨u0, u1, u2, u3, u4⟩ := ed_cells K.out.now.1.2.2.1)
        | (go_at_call 10; refine (lawFits_any S L.out.1.hS l L.out.1.hl A c _).mono ?_; rw [H1.out]; rintro e w2 ⟨rfl, bb⟩; replace K := Lib.hid (K.out.step bb); clear y0 y1 z0 z1 z2 z3 z4 u0 u1 u2 u3 u4; clear bb; obtain ⟨y0, y1⟩ := txt_cells K.out.now.1.1; obtain ⟨z0, z1, z2, z3, z4⟩ := ed_cells K.out.now.1.2.1; obtain ⟨u0, u1, u2, u3, u4⟩ := ed_cells K.out.now.1.2.2.1)
        | (go_at_call_of 16 q; refine (lawEFits_any A2 A3 d d3 a U X q m _ L.out.2.1.hS L.out.2.1.hl L.out.2.2.1.hS L.out.2.2.1.hl).mono ?_; rw [H2.out]; rintro e w3 ⟨rfl, bb⟩; replace K := Lib.hid (K.out.step bb); clear y0 y1 z0 z1 z2 z3 z4 u0 u1 u2 u3 u4; clear bb; obtain ⟨y0, y1⟩ := txt_cells K.out.now.1.1; obtain ⟨z0, z1, z2, z3, z4⟩ := ed_cells K.out.now.1.2.1; obtain ⟨u0, u1, u2, u3, u4⟩ := ed_cells K.out.now.1.2.2.1))
      go_ret
      exact ⟨rfl, K.out.now.1.2.2.2⟩
  · have H1 := Lib.hid (decide_eq_false hfit)
    clear hfit
    go_enter Try.func6, Try.ntmps6
    go_wp2_with (first
      | (go_at_call 9; refine (ediAlive_any _).mono ?_; rintro e w1 ⟨rfl, bb⟩; replace K := Lib.hid (K.out.step bb); clear y0 y1 z0 z1 z2 z3 z4 u0 u1 u2 u3 u4; clear bb; obtain ⟨y0, y1⟩ := txt_cells K.out.now.1.1; obtain ⟨z0, z1, z2, z3, z4⟩ := ed_cells K.out.now.1.2.1; obtain ⟨u0, u1, u2, u3, u4⟩ := ed_cells K.out.now.1.2.2.1)
      | (go_at_call 10; refine (lawFits_any S L.out.1.hS l L.out.1.hl A c _).mono ?_; rw [H1.out]; rintro e w2 ⟨rfl, bb⟩; replace K := Lib.hid (K.out.step bb); clear y0 y1 z0 z1 z2 z3 z4 u0 u1 u2 u3 u4; clear bb; obtain ⟨y0, y1⟩ := txt_cells K.out.now.1.1; obtain ⟨z0, z1, z2, z3, z4⟩ := ed_cells K.out.now.1.2.1; obtain ⟨u0, u1, u2, u3, u4⟩ := ed_cells K.out.now.1.2.2.1))
    go_ret
    exact ⟨rfl, K.out.now.1.2.2.2⟩
end Go.Proofs.Ytmpliacojljchaa

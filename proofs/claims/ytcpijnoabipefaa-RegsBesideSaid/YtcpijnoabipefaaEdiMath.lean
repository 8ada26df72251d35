/-
  Edits as plain values: layer 7.
-/
import Derived.Test.YtcpijnoabipefaaM04s
namespace Go.Proofs.Ytcpijnoabipefaa
open Go.RowKit

/-- an edit: where, what was there, what comes -/
structure EdP where
  a : Int
  S : List UInt8
  l : List RunP
  X : List UInt8
  m : List RunP
def goodE (a : Int) (S : List UInt8) (l : List RunP) (X : List UInt8) (m : List RunP) : Bool := goodT S l && goodT X m && decide (0 ≤ a ∧ a ≤ 4096)
theorem goodE_iff (a : Int) (S X : List UInt8) (l m : List RunP) : goodE a S l X m = true ↔ goodT S l = true ∧ goodT X m = true ∧ 0 ≤ a ∧ a ≤ 4096 := by
  unfold goodE; simp [and_assoc]
def applyE (S : List UInt8) (l : List RunP) (a : Int) (U : List UInt8) (q : List RunP) (X : List UInt8) (m : List RunP) : (List UInt8 × List RunP) × Nat :=
  if goodE a U q X m = true then
    if (cutOf S l a (a + (U.length : Int))).2 = 0 then
      (if U = (cutOf S l a (a + (U.length : Int))).1.1 ∧ q = (cutOf S l a (a + (U.length : Int))).1.2 then spliceT S l a (a + (U.length : Int)) X m else (([], []), 7))
    else (([], []), (cutOf S l a (a + (U.length : Int))).2)
  else (([], []), 2)
def ofE (S : List UInt8) (l : List RunP) (f t : Int) (X : List UInt8) (m : List RunP) : EdP × Nat :=
  if (cutOf S l f t).2 = 0 then
    (if (spliceT S l f t X m).2 = 0 then (⟨f, (cutOf S l f t).1.1, (cutOf S l f t).1.2, X, m⟩, 0) else (⟨0, [], [], [], []⟩, (spliceT S l f t X m).2))
  else (⟨0, [], [], [], []⟩, (cutOf S l f t).2)
def followE (a : Int) (S : List UInt8) (l : List RunP) (X : List UInt8) (m : List RunP) (p : Int) : Int :=
  if goodE a S l X m = true ∧ 0 ≤ p ∧ p ≤ 4096 ∧ a < p then
    (if a + (S.length : Int) ≤ p then p + (X.length : Int) - (S.length : Int) else min p (a + (X.length : Int)))
  else p
def joinE (a : Int) (S : List UInt8) (l : List RunP) (X : List UInt8) (m : List RunP) (b : Int) (T : List UInt8) (q : List RunP) (Y : List UInt8) (r : List RunP) : EdP × Bool :=
  if goodE a S l X m = true ∧ goodE b T q Y r = true then
    (if (applyE X m (b - a) T q Y r).2 = 0 then (⟨a, S, l, (applyE X m (b - a) T q Y r).1.1, (applyE X m (b - a) T q Y r).1.2⟩, true) else (⟨0, [], [], [], []⟩, false))
  else (⟨0, [], [], [], []⟩, false)

theorem cutOf_zero {S : List UInt8} {l : List RunP} {f t : Int} (h : (cutOf S l f t).2 = 0) : withinT S l f t = true := by
  unfold cutOf at h
  by_cases hw : withinT S l f t = true
  · exact hw
  · rw [if_neg hw] at h; simp at h
theorem cutOf_two {S : List UInt8} {l : List RunP} {f t : Int} (h : (cutOf S l f t).2 ≠ 0) : cutOf S l f t = (([], []), 2) := by
  unfold cutOf at h ⊢
  by_cases hw : withinT S l f t = true
  · rw [if_pos hw] at h; simp at h
  · rw [if_neg hw]
theorem spliceT_zero {S X : List UInt8} {l m : List RunP} {f t : Int} (h : (spliceT S l f t X m).2 = 0) : withinT S l f t = true ∧ goodT X m = true ∧ (S.length : Int) - (t - f) + (X.length : Int) ≤ 4096 := by
  by_cases hw : withinT S l f t = true ∧ goodT X m = true
  · by_cases hb : (S.length : Int) - (t - f) + (X.length : Int) ≤ 4096
    · exact ⟨hw.1, hw.2, hb⟩
    · rw [spliceT_big hw.1 hw.2 hb] at h; simp at h
  · rw [spliceT_bad hw] at h; simp at h
theorem spliceT_err {S X : List UInt8} {l m : List RunP} {f t : Int} (h : (spliceT S l f t X m).2 ≠ 0) : (spliceT S l f t X m).1 = ([], []) := by
  by_cases hw : withinT S l f t = true ∧ goodT X m = true
  · by_cases hb : (S.length : Int) - (t - f) + (X.length : Int) ≤ 4096
    · rw [spliceT_ok hw.1 hw.2 hb] at h; simp at h
    · rw [spliceT_big hw.1 hw.2 hb]
  · rw [spliceT_bad hw]

/-- three parts of a list -/
theorem parts3 {α : Type} (L : List α) (f n : Nat) (_h : f + n ≤ L.length) : L = L.take f ++ (L.drop f).take n ++ L.drop (f + n) := by
  rw [List.append_assoc, ← List.drop_drop, List.take_append_drop, List.take_append_drop]
theorem take_three {α : Type} (P V Q : List α) {n : Nat} (h : n = P.length) : (P ++ V ++ Q).take n = P := by rw [List.append_assoc, List.take_left' h.symm]
theorem drop_three {α : Type} (P V Q : List α) {n : Nat} (h : n = P.length + V.length) : (P ++ V ++ Q).drop n = Q := by rw [List.drop_left' (by rw [List.length_append]; omega)]
theorem mid_three {α : Type} (P V Q : List α) {n k : Nat} (h : n = P.length) (hk : k = V.length) : ((P ++ V ++ Q).drop n).take k = V := by
  rw [List.append_assoc, List.drop_left' h.symm, List.take_left' hk.symm]

/-- an edit that can be made, by the parts of the text -/
def Made (S : List UInt8) (l : List RunP) (a : Int) (U : List UInt8) (q : List RunP) (X : List UInt8) (m : List RunP) (V : List UInt8) (r : List RunP) : Prop :=
  goodE a U q X m = true ∧ goodB l = true ∧ ∃ P Q : List UInt8, ∃ p s : List Nat, S = P ++ U ++ Q ∧ bytesOf l = p ++ bytesOf q ++ s ∧ (P.length : Int) = a ∧ p.length = P.length ∧ s.length = Q.length ∧ S.length ≤ 4096 ∧
    P.length + X.length + Q.length ≤ 4096 ∧ V = P ++ X ++ Q ∧ r = pack (p ++ bytesOf m ++ s)

theorem applyE_made {S : List UInt8} {l : List RunP} {a : Int} {U : List UInt8} {q : List RunP} {X : List UInt8} {m : List RunP} (h : (applyE S l a U q X m).2 = 0) : Made S l a U q X m (applyE S l a U q X m).1.1 (applyE S l a U q X m).1.2 := by
  unfold applyE at h ⊢
  by_cases hg : goodE a U q X m = true
  · rw [if_pos hg] at h ⊢
    by_cases hc : (cutOf S l a (a + (U.length : Int))).2 = 0
    · rw [if_pos hc] at h ⊢
      by_cases hs : U = (cutOf S l a (a + (U.length : Int))).1.1 ∧ q = (cutOf S l a (a + (U.length : Int))).1.2
      · rw [if_pos hs] at h ⊢
        obtain ⟨hw, hx, hb⟩ := spliceT_zero h
        rw [spliceT_ok hw hx hb]
        obtain ⟨gU, _, ha0, ha1⟩ := (goodE_iff a U X q m).1 hg
        obtain ⟨gS, h0, h1, h2⟩ := withinT_of hw
        obtain ⟨u1, u2, u3⟩ := goodT_size gU
        obtain ⟨s1, s2, s3⟩ := goodT_size gS
        obtain ⟨A, rfl⟩ : ∃ A : Nat, a = (A : Int) := ⟨a.toNat, by omega⟩
        unfold cutOf at hs
        rw [if_pos hw] at hs
        dsimp only at hs
        rw [Int.toNat_natCast, show ((A : Int) + (U.length : Int) - (A : Int)).toNat = U.length by omega] at hs
        obtain ⟨e1, e2⟩ := hs
        have e3 : bytesOf q = ((bytesOf l).drop A).take U.length := by
          rw [e2, bytesOf_pack]; unfold cut; rw [Int.toNat_natCast, show ((A : Int) + (U.length : Int) - (A : Int)).toNat = U.length by omega]
        rw [Int.toNat_natCast, show ((A : Int) + (U.length : Int)).toNat = A + U.length by omega]
        refine ⟨hg, ((goodT_iff S l).1 gS).1, S.take A, S.drop (A + U.length), (bytesOf l).take A, (bytesOf l).drop (A + U.length), ?_, ?_, ?_, ?_, ?_, s1, ?_, rfl, rfl⟩
        · have e := parts3 S A U.length (by omega)
          rw [← e1] at e
          exact e
        · have e := parts3 (bytesOf l) A U.length (by omega)
          rw [← e3] at e
          exact e
        · rw [List.length_take]; omega
        · rw [List.length_take, List.length_take]; omega
        · rw [List.length_drop, List.length_drop]; omega
        · rw [List.length_take, List.length_drop]; omega
      · rw [if_neg hs] at h; simp at h
    · rw [if_neg hc] at h; exact absurd h hc
  · rw [if_neg hg] at h; simp at h
theorem made_applyE {S : List UInt8} {l : List RunP} {a : Int} {U : List UInt8} {q : List RunP} {X : List UInt8} {m : List RunP} {V : List UInt8} {r : List RunP} (h : Made S l a U q X m V r) : applyE S l a U q X m = ((V, r), 0) := by
  obtain ⟨hg, hB, P, Q, p, s, rfl, hb, hP, hp, hs, h1, h2, rfl, rfl⟩ := h
  obtain ⟨gU, gX, ha0, ha1⟩ := (goodE_iff a U X q m).1 hg
  obtain ⟨u1, u2, u3⟩ := goodT_size gU
  have gS : goodT (P ++ U ++ Q) l = true := (goodT_iff _ _).2 ⟨hB, by rw [hb]; simp only [List.length_append]; omega⟩
  have hlen : (P ++ U ++ Q).length = P.length + U.length + Q.length := by simp only [List.length_append]
  have hw : withinT (P ++ U ++ Q) l a (a + (U.length : Int)) = true := (withinT_iff _ _ _ _).2 ⟨gS, ha0, by omega, by rw [hlen]; omega⟩
  have hc : cutOf (P ++ U ++ Q) l a (a + (U.length : Int)) = ((U, q), 0) := by
    unfold cutOf
    rw [if_pos hw, hb]
    unfold cut
    rw [show (a + (U.length : Int) - a).toNat = U.length by omega, mid_three P U Q (by omega) rfl, mid_three p (bytesOf q) s (by omega) (by omega), goodB_eq ((goodT_iff _ _).1 gU).1]
  unfold applyE
  rw [if_pos hg, hc]
  dsimp only
  rw [if_pos rfl, if_pos ⟨rfl, rfl⟩, spliceT_ok hw gX (by rw [hlen]; omega), hb]
  rw [take_three P U Q (by omega), drop_three P U Q (by omega), take_three p (bytesOf q) s (by omega), drop_three p (bytesOf q) s (by omega)]
theorem made_inv {S : List UInt8} {l : List RunP} {a : Int} {U : List UInt8} {q : List RunP} {X : List UInt8} {m : List RunP} {V : List UInt8} {r : List RunP} (h : Made S l a U q X m V r) : Made V r a X m U q S l := by
  obtain ⟨hg, hB, P, Q, p, s, rfl, hb, hP, hp, hs, h1, h2, rfl, rfl⟩ := h
  obtain ⟨gU, gX, ha0, ha1⟩ := (goodE_iff a U X q m).1 hg
  obtain ⟨x1, x2, x3⟩ := goodT_size gX
  have hlen : (P ++ U ++ Q).length = P.length + U.length + Q.length := by simp only [List.length_append]
  refine ⟨(goodE_iff _ _ _ _ _).2 ⟨gX, gU, ha0, ha1⟩, goodB_pack (by simp only [List.length_append]; omega), P, Q, p, s, rfl, by rw [bytesOf_pack], hP, hp, hs, ?_, by omega, rfl, ?_⟩
  · simp only [List.length_append]; omega
  · rw [← hb, goodB_eq hB]
/-- an edit undone -/
theorem back_ok {S : List UInt8} {l : List RunP} {a : Int} {U : List UInt8} {q : List RunP} {X : List UInt8} {m : List RunP} {V : List UInt8} {r : List RunP} (h : applyE S l a U q X m = ((V, r), 0)) : applyE V r a X m U q = ((S, l), 0) := by
  have h1 := applyE_made (S := S) (l := l) (a := a) (U := U) (q := q) (X := X) (m := m) (by rw [h])
  rw [h] at h1
  exact made_applyE (made_inv h1)
theorem applyE_err {S : List UInt8} {l : List RunP} {a : Int} {U : List UInt8} {q : List RunP} {X : List UInt8} {m : List RunP} (h : (applyE S l a U q X m).2 ≠ 0) : (applyE S l a U q X m).1 = ([], []) := by
  unfold applyE at h ⊢
  split
  · next hg =>
    rw [if_pos hg] at h
    split
    · next hc =>
      rw [if_pos hc] at h
      split
      · next hs => rw [if_pos hs] at h; exact spliceT_err h
      · rfl
    · rfl
  · rfl
theorem okT_apply {S X : List UInt8} {l m : List RunP} (hf : Fits l) (hf2 : Fits m) (a : Int) (U : List UInt8) (q : List RunP) : OkT (applyE S l a U q X m) := by
  unfold applyE
  split
  · split
    · split
      · exact okT_splice hf hf2 _ _
      · exact okT_nil _
    · exact okT_nil _
  · exact okT_nil _
/-- the edit of a place is made -/
theorem of_apply {S X : List UInt8} {l m : List RunP} {f t : Int} {a : Int} {U V : List UInt8} {q r : List RunP} (h : ofE S l f t X m = (⟨a, U, q, V, r⟩, 0)) : a = f ∧ V = X ∧ r = m ∧ cutOf S l f t = ((U, q), 0) ∧ applyE S l a U q V r = spliceT S l f t X m ∧ (spliceT S l f t X m).2 = 0 := by
  unfold ofE at h
  by_cases hc : (cutOf S l f t).2 = 0
  · rw [if_pos hc] at h
    by_cases hs : (spliceT S l f t X m).2 = 0
    · rw [if_pos hs] at h
      injection h with h _
      injection h with e1 e2 e3 e4 e5
      subst e1 e4 e5
      have hcut : cutOf S l f t = ((U, q), 0) := by
        rw [show cutOf S l f t = ((((cutOf S l f t).1.1), (cutOf S l f t).1.2), (cutOf S l f t).2) from rfl, e2, e3, hc]
      obtain ⟨hw, hx, hb⟩ := spliceT_zero hs
      obtain ⟨gS, h0, h1, h2⟩ := withinT_of hw
      obtain ⟨s1, s2, s3⟩ := goodT_size gS
      have hlen : (U.length : Int) = t - f := by
        rw [← e2]; unfold cutOf; rw [if_pos hw]
        show (((S.drop f.toNat).take (t - f).toNat).length : Int) = t - f
        rw [List.length_take, List.length_drop]; omega
      have hcl := cut_len (b := bytesOf l) h0 h1 (by omega)
      have hq : q = pack (cut (bytesOf l) f t) := by rw [← e3]; unfold cutOf; rw [if_pos hw]
      have gU : goodT U q = true := (goodT_iff _ _).2 ⟨by rw [hq]; exact goodB_pack (by omega), by rw [hq, bytesOf_pack]; omega⟩
      refine ⟨rfl, rfl, rfl, hcut, ?_, hs⟩
      unfold applyE
      rw [if_pos ((goodE_iff _ _ _ _ _).2 ⟨gU, hx, h0, by omega⟩), show f + (U.length : Int) = t by omega, hcut]
      dsimp only
      rw [if_pos rfl, if_pos ⟨rfl, rfl⟩]
    · rw [if_neg hs] at h
      injection h with _ h
      exact absurd h hs
  · rw [if_neg hc] at h
    injection h with _ h
    exact absurd h hc
/-- two edits as one -/
theorem once_ok {S : List UInt8} {l : List RunP} {a : Int} {U : List UInt8} {q : List RunP} {X : List UInt8} {m : List RunP} {b : Int} {T : List UInt8} {k : List RunP} {Y : List UInt8} {j : List RunP}
    {V V2 : List UInt8} {r r2 : List RunP} {c : Int} {W Z : List UInt8} {i n : List RunP}
    (h1 : applyE S l a U q X m = ((V, r), 0)) (h2 : applyE V r b T k Y j = ((V2, r2), 0)) (h3 : joinE a U q X m b T k Y j = (⟨c, W, i, Z, n⟩, true)) : applyE S l c W i Z n = ((V2, r2), 0) := by
  have m1 := applyE_made (S := S) (l := l) (a := a) (U := U) (q := q) (X := X) (m := m) (by rw [h1])
  have m2 := applyE_made (S := V) (l := r) (a := b) (U := T) (q := k) (X := Y) (m := j) (by rw [h2])
  rw [h1] at m1
  rw [h2] at m2
  unfold joinE at h3
  by_cases hg : goodE a U q X m = true ∧ goodE b T k Y j = true
  · rw [if_pos hg] at h3
    by_cases ha : (applyE X m (b - a) T k Y j).2 = 0
    · rw [if_pos ha] at h3
      injection h3 with h3 _
      injection h3 with e1 e2 e3 e4 e5
      have m3 := applyE_made ha
      rw [e4, e5] at m3
      subst e1 e2 e3
      clear e4 e5 h1 h2 ha
      dsimp only at m1 m2
      obtain ⟨g1, B1, P, Q, p, s, rfl, hb, hP, hp, hs, h4, h5, rfl, rfl⟩ := m1
      obtain ⟨g2, B2, P2, Q2, p2, s2, hV, hb2, hP2, hp2, hs2, h42, h52, rfl, rfl⟩ := m2
      obtain ⟨g3, B3, P3, Q3, p3, s3, hX, hb3, hP3, hp3, hs3, h43, h53, rfl, rfl⟩ := m3
      obtain ⟨gU, gX, ha0, ha1⟩ := (goodE_iff a U X q m).1 g1
      obtain ⟨gT, gY, _, _⟩ := (goodE_iff b T Y k j).1 g2
      obtain ⟨u1, u2, u3⟩ := goodT_size gU
      obtain ⟨x1, x2, x3⟩ := goodT_size gX
      obtain ⟨t1, t2, t3⟩ := goodT_size gT
      obtain ⟨y1, y2, y3⟩ := goodT_size gY
      rw [bytesOf_pack] at hb2
      have hPP : P2 = P ++ P3 ∧ Q2 = Q3 ++ Q := by
        have e : P2 ++ (T ++ Q2) = (P ++ P3) ++ (T ++ (Q3 ++ Q)) := by
          have := hV
          rw [hX] at this
          simp only [List.append_assoc] at this ⊢
          exact this.symm
        obtain ⟨e1, e2⟩ := List.append_inj e (by rw [List.length_append]; omega)
        exact ⟨e1, List.append_cancel_left e2⟩
      have hpp : p2 = p ++ p3 ∧ s2 = s3 ++ s := by
        have e : p2 ++ (bytesOf k ++ s2) = (p ++ p3) ++ (bytesOf k ++ (s3 ++ s)) := by
          have := hb2
          rw [hb3] at this
          simp only [List.append_assoc] at this ⊢
          exact this.symm
        obtain ⟨e1, e2⟩ := List.append_inj e (by rw [List.length_append]; omega)
        exact ⟨e1, List.append_cancel_left e2⟩
      obtain ⟨rfl, rfl⟩ := hPP
      obtain ⟨rfl, rfl⟩ := hpp
      have hXl := congrArg List.length hX
      simp only [List.length_append] at hXl h52 h53
      refine made_applyE ⟨(goodE_iff _ _ _ _ _).2 ⟨gU, (goodT_iff _ _).2 ⟨goodB_pack (by simp only [List.length_append]; omega), by rw [bytesOf_pack]; simp only [List.length_append]; omega⟩, ha0, ha1⟩, B1, P, Q, p, s, rfl, hb, hP, hp, hs, h4, ?_, ?_, ?_⟩
      · simp only [List.length_append]; omega
      · simp only [List.append_assoc]
      · rw [bytesOf_pack]; simp only [List.append_assoc]
    · rw [if_neg ha] at h3; simp at h3
  · rw [if_neg hg] at h3; simp at h3
end Go.Proofs.Ytcpijnoabipefaa

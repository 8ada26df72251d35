/-
  Merged: EdiMath, EdiWords, EdiGood, EdiCopy, EdiApply, EdiInv, EdiOf, EdiRefs, EdiRet.
-/
import Derived.Test.YtgmeamefbfgbgaaDoorM04s
import Derived.Test.YtgmeamefbfgbgaaDoorM04o
import Derived.Test.YtgmeamefbfgbgaaDoorPieMem
import Derived.Lib.SliceRun
import Derived.Test.YtgmeamefbfgbgaaDoorM04
/-
  Edits as plain values: layer 7.
-/
namespace Go.Proofs.YtgmeamefbfgbgaaDoor
set_option maxRecDepth 100000
open Go.RowKit

/-- an edit: where, what was there, what comes -/
structure EdP where
  a : Int
  S : List UInt8
  l : List RunP
  X : List UInt8
  m : List RunP
def goodE (a : Int) (S : List UInt8) (l : List RunP) (X : List UInt8) (m : List RunP) : Bool := goodT S l && goodT X m && decide (0 ≤ a ∧ a ≤ 4096)
theorem goodE_iff (a : Int) (S X : List UInt8) (l m : List RunP) : goodE a S l X m = true ↔ goodT S l = true ∧ goodT X m = true ∧ 0 ≤ a ∧ a ≤ 4096 := by
  unfold goodE; simp [and_assoc]
def applyE (S : List UInt8) (l : List RunP) (a : Int) (U : List UInt8) (q : List RunP) (X : List UInt8) (m : List RunP) : (List UInt8 × List RunP) × Nat :=
  if goodE a U q X m = true then
    if (cutOf S l a (a + (U.length : Int))).2 = 0 then
      (if U = (cutOf S l a (a + (U.length : Int))).1.1 ∧ q = (cutOf S l a (a + (U.length : Int))).1.2 then spliceT S l a (a + (U.length : Int)) X m else (([], []), 7))
    else (([], []), (cutOf S l a (a + (U.length : Int))).2)
  else (([], []), 2)
def ofE (S : List UInt8) (l : List RunP) (f t : Int) (X : List UInt8) (m : List RunP) : EdP × Nat :=
  if (cutOf S l f t).2 = 0 then
    (if (spliceT S l f t X m).2 = 0 then (⟨f, (cutOf S l f t).1.1, (cutOf S l f t).1.2, X, m⟩, 0) else (⟨0, [], [], [], []⟩, (spliceT S l f t X m).2))
  else (⟨0, [], [], [], []⟩, (cutOf S l f t).2)
def followE (a : Int) (S : List UInt8) (l : List RunP) (X : List UInt8) (m : List RunP) (p : Int) : Int :=
  if goodE a S l X m = true ∧ 0 ≤ p ∧ p ≤ 4096 ∧ a < p then
    (if a + (S.length : Int) ≤ p then p + (X.length : Int) - (S.length : Int) else min p (a + (X.length : Int)))
  else p
def joinE (a : Int) (S : List UInt8) (l : List RunP) (X : List UInt8) (m : List RunP) (b : Int) (T : List UInt8) (q : List RunP) (Y : List UInt8) (r : List RunP) : EdP × Bool :=
  if goodE a S l X m = true ∧ goodE b T q Y r = true then
    (if (applyE X m (b - a) T q Y r).2 = 0 then (⟨a, S, l, (applyE X m (b - a) T q Y r).1.1, (applyE X m (b - a) T q Y r).1.2⟩, true) else (⟨0, [], [], [], []⟩, false))
  else (⟨0, [], [], [], []⟩, false)

theorem cutOf_zero {S : List UInt8} {l : List RunP} {f t : Int} (h : (cutOf S l f t).2 = 0) : withinT S l f t = true := by
  unfold cutOf at h
  by_cases hw : withinT S l f t = true
  · exact hw
  · rw [if_neg hw] at h; simp at h
theorem cutOf_two {S : List UInt8} {l : List RunP} {f t : Int} (h : (cutOf S l f t).2 ≠ 0) : cutOf S l f t = (([], []), 2) := by
  unfold cutOf at h ⊢
  by_cases hw : withinT S l f t = true
  · rw [if_pos hw] at h; simp at h
  · rw [if_neg hw]
theorem spliceT_zero {S X : List UInt8} {l m : List RunP} {f t : Int} (h : (spliceT S l f t X m).2 = 0) : withinT S l f t = true ∧ goodT X m = true ∧ (S.length : Int) - (t - f) + (X.length : Int) ≤ 4096 := by
  by_cases hw : withinT S l f t = true ∧ goodT X m = true
  · by_cases hb : (S.length : Int) - (t - f) + (X.length : Int) ≤ 4096
    · exact ⟨hw.1, hw.2, hb⟩
    · rw [spliceT_big hw.1 hw.2 hb] at h; simp at h
  · rw [spliceT_bad hw] at h; simp at h
theorem spliceT_err {S X : List UInt8} {l m : List RunP} {f t : Int} (h : (spliceT S l f t X m).2 ≠ 0) : (spliceT S l f t X m).1 = ([], []) := by
  by_cases hw : withinT S l f t = true ∧ goodT X m = true
  · by_cases hb : (S.length : Int) - (t - f) + (X.length : Int) ≤ 4096
    · rw [spliceT_ok hw.1 hw.2 hb] at h; simp at h
    · rw [spliceT_big hw.1 hw.2 hb]
  · rw [spliceT_bad hw]

/-- three parts of a list -/
theorem parts3 {α : Type} (L : List α) (f n : Nat) (_h : f + n ≤ L.length) : L = L.take f ++ (L.drop f).take n ++ L.drop (f + n) := by
  rw [List.append_assoc, ← List.drop_drop, List.take_append_drop, List.take_append_drop]
theorem take_three {α : Type} (P V Q : List α) {n : Nat} (h : n = P.length) : (P ++ V ++ Q).take n = P := by rw [List.append_assoc, List.take_left' h.symm]
theorem drop_three {α : Type} (P V Q : List α) {n : Nat} (h : n = P.length + V.length) : (P ++ V ++ Q).drop n = Q := by rw [List.drop_left' (by rw [List.length_append]; omega)]
theorem mid_three {α : Type} (P V Q : List α) {n k : Nat} (h : n = P.length) (hk : k = V.length) : ((P ++ V ++ Q).drop n).take k = V := by
  rw [List.append_assoc, List.drop_left' h.symm, List.take_left' hk.symm]

/-- an edit that can be made, by the parts of the text -/
def Made (S : List UInt8) (l : List RunP) (a : Int) (U : List UInt8) (q : List RunP) (X : List UInt8) (m : List RunP) (V : List UInt8) (r : List RunP) : Prop :=
  goodE a U q X m = true ∧ goodB l = true ∧ ∃ P Q : List UInt8, ∃ p s : List Nat, S = P ++ U ++ Q ∧ bytesOf l = p ++ bytesOf q ++ s ∧ (P.length : Int) = a ∧ p.length = P.length ∧ s.length = Q.length ∧ S.length ≤ 4096 ∧
    P.length + X.length + Q.length ≤ 4096 ∧ V = P ++ X ++ Q ∧ r = pack (p ++ bytesOf m ++ s)

theorem applyE_made {S : List UInt8} {l : List RunP} {a : Int} {U : List UInt8} {q : List RunP} {X : List UInt8} {m : List RunP} (h : (applyE S l a U q X m).2 = 0) : Made S l a U q X m (applyE S l a U q X m).1.1 (applyE S l a U q X m).1.2 := by
  unfold applyE at h ⊢
  by_cases hg : goodE a U q X m = true
  · rw [if_pos hg] at h ⊢
    by_cases hc : (cutOf S l a (a + (U.length : Int))).2 = 0
    · rw [if_pos hc] at h ⊢
      by_cases hs : U = (cutOf S l a (a + (U.length : Int))).1.1 ∧ q = (cutOf S l a (a + (U.length : Int))).1.2
      · rw [if_pos hs] at h ⊢
        obtain ⟨hw, hx, hb⟩ := spliceT_zero h
        rw [spliceT_ok hw hx hb]
        obtain ⟨gU, _, ha0, ha1⟩ := (goodE_iff a U X q m).1 hg
        obtain ⟨gS, h0, h1, h2⟩ := withinT_of hw
        obtain ⟨u1, u2, u3⟩ := goodT_size gU
        obtain ⟨s1, s2, s3⟩ := goodT_size gS
        obtain ⟨A, rfl⟩ : ∃ A : Nat, a = (A : Int) := ⟨a.toNat, by omega⟩
        unfold cutOf at hs
        rw [if_pos hw] at hs
        dsimp only at hs
        rw [Int.toNat_natCast, show ((A : Int) + (U.length : Int) - (A : Int)).toNat = U.length by omega] at hs
        obtain ⟨e1, e2⟩ := hs
        have e3 : bytesOf q = ((bytesOf l).drop A).take U.length := by
          rw [e2, bytesOf_pack]; unfold cut; rw [Int.toNat_natCast, show ((A : Int) + (U.length : Int) - (A : Int)).toNat = U.length by omega]
        rw [Int.toNat_natCast, show ((A : Int) + (U.length : Int)).toNat = A + U.length by omega]
        refine ⟨hg, ((goodT_iff S l).1 gS).1, S.take A, S.drop (A + U.length), (bytesOf l).take A, (bytesOf l).drop (A + U.length), ?_, ?_, ?_, ?_, ?_, s1, ?_, rfl, rfl⟩
        · have e := parts3 S A U.length (by omega)
          rw [← e1] at e
          exact e
        · have e := parts3 (bytesOf l) A U.length (by omega)
          rw [← e3] at e
          exact e
        · rw [List.length_take]; omega
        · rw [List.length_take, List.length_take]; omega
        · rw [List.length_drop, List.length_drop]; omega
        · rw [List.length_take, List.length_drop]; omega
      · rw [if_neg hs] at h; simp at h
    · rw [if_neg hc] at h; exact absurd h hc
  · rw [if_neg hg] at h; simp at h
theorem made_applyE {S : List UInt8} {l : List RunP} {a : Int} {U : List UInt8} {q : List RunP} {X : List UInt8} {m : List RunP} {V : List UInt8} {r : List RunP} (h : Made S l a U q X m V r) : applyE S l a U q X m = ((V, r), 0) := by
  obtain ⟨hg, hB, P, Q, p, s, rfl, hb, hP, hp, hs, h1, h2, rfl, rfl⟩ := h
  obtain ⟨gU, gX, ha0, ha1⟩ := (goodE_iff a U X q m).1 hg
  obtain ⟨u1, u2, u3⟩ := goodT_size gU
  have gS : goodT (P ++ U ++ Q) l = true := (goodT_iff _ _).2 ⟨hB, by rw [hb]; simp only [List.length_append]; omega⟩
  have hlen : (P ++ U ++ Q).length = P.length + U.length + Q.length := by simp only [List.length_append]
  have hw : withinT (P ++ U ++ Q) l a (a + (U.length : Int)) = true := (withinT_iff _ _ _ _).2 ⟨gS, ha0, by omega, by rw [hlen]; omega⟩
  have hc : cutOf (P ++ U ++ Q) l a (a + (U.length : Int)) = ((U, q), 0) := by
    unfold cutOf
    rw [if_pos hw, hb]
    unfold cut
    rw [show (a + (U.length : Int) - a).toNat = U.length by omega, mid_three P U Q (by omega) rfl, mid_three p (bytesOf q) s (by omega) (by omega), goodB_eq ((goodT_iff _ _).1 gU).1]
  unfold applyE
  rw [if_pos hg, hc]
  dsimp only
  rw [if_pos rfl, if_pos ⟨rfl, rfl⟩, spliceT_ok hw gX (by rw [hlen]; omega), hb]
  rw [take_three P U Q (by omega), drop_three P U Q (by omega), take_three p (bytesOf q) s (by omega), drop_three p (bytesOf q) s (by omega)]
theorem made_inv {S : List UInt8} {l : List RunP} {a : Int} {U : List UInt8} {q : List RunP} {X : List UInt8} {m : List RunP} {V : List UInt8} {r : List RunP} (h : Made S l a U q X m V r) : Made V r a X m U q S l := by
  obtain ⟨hg, hB, P, Q, p, s, rfl, hb, hP, hp, hs, h1, h2, rfl, rfl⟩ := h
  obtain ⟨gU, gX, ha0, ha1⟩ := (goodE_iff a U X q m).1 hg
  obtain ⟨x1, x2, x3⟩ := goodT_size gX
  have hlen : (P ++ U ++ Q).length = P.length + U.length + Q.length := by simp only [List.length_append]
  refine ⟨(goodE_iff _ _ _ _ _).2 ⟨gX, gU, ha0, ha1⟩, goodB_pack (by simp only [List.length_append]; omega), P, Q, p, s, rfl, by rw [bytesOf_pack], hP, hp, hs, ?_, by omega, rfl, ?_⟩
  · simp only [List.length_append]; omega
  · rw [← hb, goodB_eq hB]
/-- an edit undone -/
theorem back_ok {S : List UInt8} {l : List RunP} {a : Int} {U : List UInt8} {q : List RunP} {X : List UInt8} {m : List RunP} {V : List UInt8} {r : List RunP} (h : applyE S l a U q X m = ((V, r), 0)) : applyE V r a X m U q = ((S, l), 0) := by
  have h1 := applyE_made (S := S) (l := l) (a := a) (U := U) (q := q) (X := X) (m := m) (by rw [h])
  rw [h] at h1
  exact made_applyE (made_inv h1)
theorem applyE_err {S : List UInt8} {l : List RunP} {a : Int} {U : List UInt8} {q : List RunP} {X : List UInt8} {m : List RunP} (h : (applyE S l a U q X m).2 ≠ 0) : (applyE S l a U q X m).1 = ([], []) := by
  unfold applyE at h ⊢
  split
  · next hg =>
    rw [if_pos hg] at h
    split
    · next hc =>
      rw [if_pos hc] at h
      split
      · next hs => rw [if_pos hs] at h; exact spliceT_err h
      · rfl
    · rfl
  · rfl
theorem okT_apply {S X : List UInt8} {l m : List RunP} (hf : Fits l) (hf2 : Fits m) (a : Int) (U : List UInt8) (q : List RunP) : OkT (applyE S l a U q X m) := by
  unfold applyE
  split
  · split
    · split
      · exact okT_splice hf hf2 _ _
      · exact okT_nil _
    · exact okT_nil _
  · exact okT_nil _
/-- the edit of a place is made -/
theorem of_apply {S X : List UInt8} {l m : List RunP} {f t : Int} {a : Int} {U V : List UInt8} {q r : List RunP} (h : ofE S l f t X m = (⟨a, U, q, V, r⟩, 0)) : a = f ∧ V = X ∧ r = m ∧ cutOf S l f t = ((U, q), 0) ∧ applyE S l a U q V r = spliceT S l f t X m ∧ (spliceT S l f t X m).2 = 0 := by
  unfold ofE at h
  by_cases hc : (cutOf S l f t).2 = 0
  · rw [if_pos hc] at h
    by_cases hs : (spliceT S l f t X m).2 = 0
    · rw [if_pos hs] at h
      injection h with h _
      injection h with e1 e2 e3 e4 e5
      subst e1 e4 e5
      have hcut : cutOf S l f t = ((U, q), 0) := by
        rw [show cutOf S l f t = ((((cutOf S l f t).1.1), (cutOf S l f t).1.2), (cutOf S l f t).2) from rfl, e2, e3, hc]
      obtain ⟨hw, hx, hb⟩ := spliceT_zero hs
      obtain ⟨gS, h0, h1, h2⟩ := withinT_of hw
      obtain ⟨s1, s2, s3⟩ := goodT_size gS
      have hlen : (U.length : Int) = t - f := by
        rw [← e2]; unfold cutOf; rw [if_pos hw]
        show (((S.drop f.toNat).take (t - f).toNat).length : Int) = t - f
        rw [List.length_take, List.length_drop]; omega
      have hcl := cut_len (b := bytesOf l) h0 h1 (by omega)
      have hq : q = pack (cut (bytesOf l) f t) := by rw [← e3]; unfold cutOf; rw [if_pos hw]
      have gU : goodT U q = true := (goodT_iff _ _).2 ⟨by rw [hq]; exact goodB_pack (by omega), by rw [hq, bytesOf_pack]; omega⟩
      refine ⟨rfl, rfl, rfl, hcut, ?_, hs⟩
      unfold applyE
      rw [if_pos ((goodE_iff _ _ _ _ _).2 ⟨gU, hx, h0, by omega⟩), show f + (U.length : Int) = t by omega, hcut]
      dsimp only
      rw [if_pos rfl, if_pos ⟨rfl, rfl⟩]
    · rw [if_neg hs] at h
      injection h with _ h
      exact absurd h hs
  · rw [if_neg hc] at h
    injection h with _ h
    exact absurd h hc
/-- two edits as one -/
theorem once_ok {S : List UInt8} {l : List RunP} {a : Int} {U : List UInt8} {q : List RunP} {X : List UInt8} {m : List RunP} {b : Int} {T : List UInt8} {k : List RunP} {Y : List UInt8} {j : List RunP}
    {V V2 : List UInt8} {r r2 : List RunP} {c : Int} {W Z : List UInt8} {i n : List RunP}
    (h1 : applyE S l a U q X m = ((V, r), 0)) (h2 : applyE V r b T k Y j = ((V2, r2), 0)) (h3 : joinE a U q X m b T k Y j = (⟨c, W, i, Z, n⟩, true)) : applyE S l c W i Z n = ((V2, r2), 0) := by
  have m1 := applyE_made (S := S) (l := l) (a := a) (U := U) (q := q) (X := X) (m := m) (by rw [h1])
  have m2 := applyE_made (S := V) (l := r) (a := b) (U := T) (q := k) (X := Y) (m := j) (by rw [h2])
  rw [h1] at m1
  rw [h2] at m2
  unfold joinE at h3
  by_cases hg : goodE a U q X m = true ∧ goodE b T k Y j = true
  · rw [if_pos hg] at h3
    by_cases ha : (applyE X m (b - a) T k Y j).2 = 0
    · rw [if_pos ha] at h3
      injection h3 with h3 _
      injection h3 with e1 e2 e3 e4 e5
      have m3 := applyE_made ha
      rw [e4, e5] at m3
      subst e1 e2 e3
      clear e4 e5 h1 h2 ha
      dsimp only at m1 m2
      obtain ⟨g1, B1, P, Q, p, s, rfl, hb, hP, hp, hs, h4, h5, rfl, rfl⟩ := m1
      obtain ⟨g2, B2, P2, Q2, p2, s2, hV, hb2, hP2, hp2, hs2, h42, h52, rfl, rfl⟩ := m2
      obtain ⟨g3, B3, P3, Q3, p3, s3, hX, hb3, hP3, hp3, hs3, h43, h53, rfl, rfl⟩ := m3
      obtain ⟨gU, gX, ha0, ha1⟩ := (goodE_iff a U X q m).1 g1
      obtain ⟨gT, gY, _, _⟩ := (goodE_iff b T Y k j).1 g2
      obtain ⟨u1, u2, u3⟩ := goodT_size gU
      obtain ⟨x1, x2, x3⟩ := goodT_size gX
      obtain ⟨t1, t2, t3⟩ := goodT_size gT
      obtain ⟨y1, y2, y3⟩ := goodT_size gY
      rw [bytesOf_pack] at hb2
      have hPP : P2 = P ++ P3 ∧ Q2 = Q3 ++ Q := by
        have e : P2 ++ (T ++ Q2) = (P ++ P3) ++ (T ++ (Q3 ++ Q)) := by
          have := hV
          rw [hX] at this
          simp only [List.append_assoc] at this ⊢
          exact this.symm
        obtain ⟨e1, e2⟩ := List.append_inj e (by rw [List.length_append]; omega)
        exact ⟨e1, List.append_cancel_left e2⟩
      have hpp : p2 = p ++ p3 ∧ s2 = s3 ++ s := by
        have e : p2 ++ (bytesOf k ++ s2) = (p ++ p3) ++ (bytesOf k ++ (s3 ++ s)) := by
          have := hb2
          rw [hb3] at this
          simp only [List.append_assoc] at this ⊢
          exact this.symm
        obtain ⟨e1, e2⟩ := List.append_inj e (by rw [List.length_append]; omega)
        exact ⟨e1, List.append_cancel_left e2⟩
      obtain ⟨rfl, rfl⟩ := hPP
      obtain ⟨rfl, rfl⟩ := hpp
      have hXl := congrArg List.length hX
      simp only [List.length_append] at hXl h52 h53
      refine made_applyE ⟨(goodE_iff _ _ _ _ _).2 ⟨gU, (goodT_iff _ _).2 ⟨goodB_pack (by simp only [List.length_append]; omega), by rw [bytesOf_pack]; simp only [List.length_append]; omega⟩, ha0, ha1⟩, B1, P, Q, p, s, rfl, hb, hP, hp, hs, h4, ?_, ?_, ?_⟩
      · simp only [List.length_append]; omega
      · simp only [List.append_assoc]
      · rw [bytesOf_pack]; simp only [List.append_assoc]
    · rw [if_neg ha] at h3; simp at h3
  · rw [if_neg hg] at h3; simp at h3
end Go.Proofs.YtgmeamefbfgbgaaDoor

/-
  Words for edits in memory: what stays while memory only grows; an edit's variable; an edit as an answer: layer 7.
-/
namespace Go.Proofs.YtgmeamefbfgbgaaDoor
set_option maxRecDepth 100000
open Go.RowKit

section
variable {w wx w1 : World} {F G : World → Prop}
/-- what holds in this world, and in each that only has more memory -/
def Grow (wx : World) (F : World → Prop) : Prop := ∀ w', Below wx.heap.size wx w' → F w'
theorem Grow.now (h : Grow wx F) : F wx := h wx (Below.refl _ _)
theorem Grow.step (h : Grow wx F) (hb : Below wx.heap.size wx w1) : Grow w1 F := fun w' h1 => h w' (hb.trans (h1.mono hb.size))
theorem Grow.and (h : Grow wx F) (k : Grow wx G) : Grow wx (fun w' => F w' ∧ G w') := fun w' h1 => ⟨h w' h1, k w' h1⟩
theorem Grow.alloc (h : Grow wx F) (o : Obj) : Grow (wx.alloc o) F := h.step ((Below.refl _ _).alloc (Nat.le_refl _) o)
theorem Grow.drewN (h : Grow wx F) (n : Nat) : Grow (wx.drewN n) F := h.step (below_drewN (Below.refl _ _) n)
theorem grow_blk {g T : Nat} {cs : Array Value} (h : Blk wx g T cs) : Grow wx (fun w' => Blk w' g T cs) := fun _ hb => h.below hb h.lt
theorem grow_bel (h : Below w.heap.size w wx) : Grow wx (fun w' => Below w.heap.size w w') := fun _ hb => h.trans (hb.mono h.size)
/-- a text that is held in memory as it is -/
def Txu (w : World) (A : Option Addr) (S : List UInt8) (l : List RunP) : Prop := Txt w w.heap.size A S l
theorem grow_txu {A : Option Addr} {S : List UInt8} {l : List RunP} (h : Txu wx A S l) : Grow wx (fun w' => Txu w' A S l) := fun _ hb => (Txt.below h hb).more hb.size
theorem grow_pure {p : Prop} (h : p) : Grow wx (fun _ => p) := fun _ _ => h
/-- a row of which no cell lies in block g -/
def RowN (w : World) (g : Nat) (A : Option Addr) (xs : List Value) : Prop := xs = [] ∨ ∃ ad, A = some ad ∧ ad.block ≠ g ∧ ad.block < w.heap.size ∧ ∀ j u, xs[j]? = some u → w.cell? (ad.add j) = some u
theorem rowN_own {base e size n c g : Nat} {A : Option Addr} {xs : List Value} (h : w.ownsRow base e size (.slice A n c) n xs) (hg : g < base) : RowN w g A xs := by
  rcases A with _ | ad
  · rcases h.2 with ⟨_, hn⟩ | ⟨k, cap, cur, hv, _⟩
    · left; exact List.eq_nil_of_length_eq_zero (by rw [h.1, hn]; simp)
    · cases hv
  · right
    have hl := h.lt ad.block rfl
    rcases h.2 with ⟨hv, _⟩ | ⟨k, cap, cur, hv, _⟩
    · cases hv
    · injection hv with hv1
      injection hv1 with hv1
      subst hv1
      exact ⟨_, rfl, by show k ≠ g; have := hl.1; dsimp only at this; omega, hl.2, h.cells (g := k) rfl⟩
theorem rowN_row {B g : Nat} {A : Option Addr} {xs : List Value} (h : Row w B A xs) (hB : B ≤ w.heap.size) (hg : B ≤ g) : RowN w g A xs := by
  rcases h with h | ⟨ad, e, hb, hc⟩
  · exact .inl h
  · exact .inr ⟨ad, e, by omega, by omega, hc⟩
theorem RowN.set {g : Nat} {A : Option Addr} {xs : List Value} (h : RowN w g A xs) (i : Nat) (u : Value) : RowN (w.setCell ⟨g, i, none⟩ u) g A xs := by
  rcases h with h | ⟨ad, e, hn, hb, hc⟩
  · exact .inl h
  · refine .inr ⟨ad, e, hn, by simpa using hb, fun j v hj => ?_⟩
    rw [World.cell?_of_block (heap_setCell_other _ ⟨g, i, none⟩ _ _ (by rw [add_block]; exact hn))]
    exact hc j v hj
theorem RowN.row {g : Nat} {A : Option Addr} {xs : List Value} (h : RowN w g A xs) : Row w w.heap.size A xs := by
  rcases h with h | ⟨ad, e, hn, hb, hc⟩
  · exact .inl h
  · exact .inr ⟨ad, e, hb, hc⟩
theorem grow_rowN {g : Nat} {A : Option Addr} {xs : List Value} (h : RowN wx g A xs) : Grow wx (fun w' => RowN w' g A xs) := by
  intro w' hb
  rcases h with h | ⟨ad, e, hn, hl, hc⟩
  · exact .inl h
  · exact .inr ⟨ad, e, hn, Nat.lt_of_lt_of_le hl hb.size, fun j u hj => (hb.cell (p := ad.add j) (by rw [add_block]; exact hl)).trans (hc j u hj)⟩
/-- a row whose cells lie in blocks from b on -/
def RowG (w : World) (b : Nat) (A : Option Addr) (xs : List Value) : Prop := xs = [] ∨ ∃ ad, A = some ad ∧ b ≤ ad.block ∧ ad.block < w.heap.size ∧ ∀ j u, xs[j]? = some u → w.cell? (ad.add j) = some u
theorem rowG_own {base e size n c : Nat} {A : Option Addr} {xs : List Value} (h : w.ownsRow base e size (.slice A n c) n xs) : RowG w base A xs := by
  rcases A with _ | ad
  · rcases h.2 with ⟨_, hn⟩ | ⟨k, cap, cur, hv, _⟩
    · left; exact List.eq_nil_of_length_eq_zero (by rw [h.1, hn]; simp)
    · cases hv
  · right
    have hl := h.lt ad.block rfl
    rcases h.2 with ⟨hv, _⟩ | ⟨k, cap, cur, hv, _⟩
    · cases hv
    · injection hv with hv1
      injection hv1 with hv1
      subst hv1
      exact ⟨_, rfl, hl.1, hl.2, h.cells (g := k) rfl⟩
theorem RowG.toN {b g : Nat} {A : Option Addr} {xs : List Value} (h : RowG w b A xs) (hg : g < b) : RowN w g A xs := by
  rcases h with h | ⟨ad, e, hb, hl, hc⟩
  · exact .inl h
  · exact .inr ⟨ad, e, by omega, hl, hc⟩
theorem RowG.less {b b' : Nat} {A : Option Addr} {xs : List Value} (h : RowG w b A xs) (hb' : b' ≤ b) : RowG w b' A xs := by
  rcases h with h | ⟨ad, e, hb, hl, hc⟩
  · exact .inl h
  · exact .inr ⟨ad, e, by omega, hl, hc⟩
theorem RowG.set {b g : Nat} {A : Option Addr} {xs : List Value} (h : RowG w b A xs) (hg : g < b) (i : Nat) (u : Value) : RowG (w.setCell ⟨g, i, none⟩ u) b A xs := by
  rcases h with h | ⟨ad, e, hn, hb, hc⟩
  · exact .inl h
  · refine .inr ⟨ad, e, hn, by simpa using hb, fun j v hj => ?_⟩
    rw [World.cell?_of_block (heap_setCell_other _ ⟨g, i, none⟩ _ _ (by rw [add_block]; show ad.block ≠ g; omega))]
    exact hc j v hj
theorem RowG.five {b g : Nat} {A : Option Addr} {xs : List Value} (h : RowG w b A xs) (hg : g < b) (v x y z u : Value) :
    RowG (((((w.setCell ⟨g, 0, none⟩ v).setCell ⟨g, 1, none⟩ x).setCell ⟨g, 2, none⟩ y).setCell ⟨g, 3, none⟩ z).setCell ⟨g, 4, none⟩ u) b A xs := ((((h.set hg 0 v).set hg 1 x).set hg 2 y).set hg 3 z).set hg 4 u
theorem RowG.row {b : Nat} {A : Option Addr} {xs : List Value} (h : RowG w b A xs) : Row w w.heap.size A xs := by
  rcases h with h | ⟨ad, e, hn, hb, hc⟩
  · exact .inl h
  · exact .inr ⟨ad, e, hb, hc⟩
theorem grow_rowG {b : Nat} {A : Option Addr} {xs : List Value} (h : RowG wx b A xs) : Grow wx (fun w' => RowG w' b A xs) := by
  intro w' hb
  rcases h with h | ⟨ad, e, hn, hl, hc⟩
  · exact .inl h
  · exact .inr ⟨ad, e, hn, Nat.lt_of_lt_of_le hl hb.size, fun j u hj => (hb.cell (p := ad.add j) (by rw [add_block]; exact hl)).trans (hc j u hj)⟩

/-- the five cells of an edit's variable -/
theorem ed_cells {g T : Nat} {a b c d e : Value} (h : Blk w g T #[a, b, c, d, e]) : w.cell? ⟨g, 0, none⟩ = some a ∧ w.cell? ⟨g, 1, none⟩ = some b ∧ w.cell? ⟨g, 2, none⟩ = some c ∧ w.cell? ⟨g, 3, none⟩ = some d ∧ w.cell? ⟨g, 4, none⟩ = some e :=
  ⟨by have := h.cell 0; simpa using this, by have := h.cell 1; simpa using this, by have := h.cell 2; simpa using this, by have := h.cell 3; simpa using this, by have := h.cell 4; simpa using this⟩
theorem ed_frozen {g T : Nat} {cs : Array Value} (h : Blk w g T cs) : w.frozen? ⟨g, 0, none⟩ = false ∧ w.frozen? ⟨g, 1, none⟩ = false ∧ w.frozen? ⟨g, 2, none⟩ = false ∧ w.frozen? ⟨g, 3, none⟩ = false ∧ w.frozen? ⟨g, 4, none⟩ = false :=
  ⟨h.frozen 0, h.frozen 1, h.frozen 2, h.frozen 3, h.frozen 4⟩
theorem ed_var {g T : Nat} {a b c d e : Value} (h : Blk w g T #[a, b, c, d, e]) : (w.cell? ⟨g, 0, none⟩ = some a ∧ w.cell? ⟨g, 1, none⟩ = some b ∧ w.cell? ⟨g, 2, none⟩ = some c ∧ w.cell? ⟨g, 3, none⟩ = some d ∧ w.cell? ⟨g, 4, none⟩ = some e) ∧ w.frozen? ⟨g, 0, none⟩ = false ∧ w.frozen? ⟨g, 1, none⟩ = false ∧ w.frozen? ⟨g, 2, none⟩ = false ∧ w.frozen? ⟨g, 3, none⟩ = false ∧ w.frozen? ⟨g, 4, none⟩ = false :=
  ⟨ed_cells h, ed_frozen h⟩
theorem blk_five {g T : Nat} {a b c d e : Value} (h : Blk w g T #[a, b, c, d, e]) (v x y z u : Value) :
    Blk (((((w.setCell ⟨g, 0, none⟩ v).setCell ⟨g, 1, none⟩ x).setCell ⟨g, 2, none⟩ y).setCell ⟨g, 3, none⟩ z).setCell ⟨g, 4, none⟩ u) g T #[v, x, y, z, u] := by
  have := ((((h.set_ 0 v).set_ 1 x).set_ 2 y).set_ 3 z).set_ 4 u
  simpa using this
theorem blk_box {T : Nat} {cs : Array Value} (w : World) : Grow (w.alloc (.cells cs T)) (fun w' => Blk w' w.heap.size T cs) := grow_blk (Blk.new w T cs)
theorem bel_box (h : Below w.heap.size w wx) (o : Obj) : Grow (wx.alloc o) (fun w' => Below w.heap.size w w') := grow_bel (h.alloc h.size o)
end

theorem edit_facts : (∃ fs, Tryd.prog.underlying 32 = some (.struct fs)) ∧ (Tryd.prog.info? 32).map (·.size) = some 5 := ⟨⟨_, Tryd.underlying32⟩, by kernel_rfl⟩
/-- an edit in a variable, handed back with something beside it -/
theorem ret_edit {fn : Func} {p u : Tmp} (h : fn.results = #[.cell p 32, .tmp u]) (a : Act) (w : World) (g : Nat) (q r s t v : Value) (hp : a.tmps.getD p undef = .pointer (some ⟨g, 0, none⟩)) (hg : Blk w g 32 #[q, r, s, t, v]) (hd : a.defers = [])
    {Q : Ending → World → Prop} (hQ : Q (.returned (.tuple #[.agg #[q, r, s, t, v], a.tmps.getD u undef])) w) : bodyPost Tryd.prog fn Q .ret a w := by
  obtain ⟨⟨fs, hu⟩, hi⟩ := edit_facts
  refine bodyPost_ret (v := .tuple #[.agg #[q, r, s, t, v], a.tmps.getD u undef]) ?_ hd hQ
  have hp' : a.tmps[p]?.getD undef = .pointer (some ⟨g, 0, none⟩) := by simpa using hp
  rw [results_cell_tmp h]
  simp [hp', asAddr, run_loadVar_row w g 32 32 #[q, r, s, t, v] (0, 0) _ hg hu rfl hi]
theorem ret_edit1 {fn : Func} {p : Tmp} (h : fn.results = #[.cell p 32]) (a : Act) (w : World) (g : Nat) (q r s t v : Value) (hp : a.tmps.getD p undef = .pointer (some ⟨g, 0, none⟩)) (hg : Blk w g 32 #[q, r, s, t, v]) (hd : a.defers = [])
    {Q : Ending → World → Prop} (hQ : Q (.returned (.agg #[q, r, s, t, v])) w) : bodyPost Tryd.prog fn Q .ret a w := by
  obtain ⟨⟨fs, hu⟩, hi⟩ := edit_facts
  exact bodyPost_ret (results_cell_row h a.tmps w g 32 #[q, r, s, t, v] (0, 0) _ hp hg hu rfl hi) hd hQ

/-- an edit and a number are the answer -/
def GivesE (w : World) (r : EdP × Nat) (e : Ending) (w' : World) : Prop :=
  ∃ A c A2 d, e = .returned (.tuple #[.agg #[.int .i64 r.1.a, .string ⟨r.1.S.toArray⟩, .slice A r.1.l.length c, .string ⟨r.1.X.toArray⟩, .slice A2 r.1.m.length d], .int .i64 (r.2 : Nat)]) ∧ Row w' w'.heap.size A (flatR r.1.l) ∧ Row w' w'.heap.size A2 (flatR r.1.m) ∧ Below w.heap.size w w'
/-- .. and the edit's runs lie in memory that is new -/
def GivesEN (w : World) (r : EdP × Nat) (e : Ending) (w' : World) : Prop :=
  ∃ A c A2 d, e = .returned (.tuple #[.agg #[.int .i64 r.1.a, .string ⟨r.1.S.toArray⟩, .slice A r.1.l.length c, .string ⟨r.1.X.toArray⟩, .slice A2 r.1.m.length d], .int .i64 (r.2 : Nat)]) ∧ RowG w' w.heap.size A (flatR r.1.l) ∧ RowG w' w.heap.size A2 (flatR r.1.m) ∧ Below w.heap.size w w'
theorem GivesEN.gives {w w' : World} {r : EdP × Nat} {e : Ending} (h : GivesEN w r e w') : GivesE w r e w' := by
  obtain ⟨A, c, A2, d, he, h1, h2, hb⟩ := h
  exact ⟨A, c, A2, d, he, h1.row, h2.row, hb⟩
/-- an edit and a truth value -/
def GivesEB (w : World) (r : EdP × Bool) (e : Ending) (w' : World) : Prop :=
  ∃ A c A2 d, e = .returned (.tuple #[.agg #[.int .i64 r.1.a, .string ⟨r.1.S.toArray⟩, .slice A r.1.l.length c, .string ⟨r.1.X.toArray⟩, .slice A2 r.1.m.length d], .bool r.2]) ∧ Row w' w'.heap.size A (flatR r.1.l) ∧ Row w' w'.heap.size A2 (flatR r.1.m) ∧ Below w.heap.size w w'
/-- an edit alone -/
def GivesE1 (w : World) (a : Int) (S : List UInt8) (l : List RunP) (X : List UInt8) (m : List RunP) (e : Ending) (w' : World) : Prop :=
  ∃ A c A2 d, e = .returned (.agg #[.int .i64 a, .string ⟨S.toArray⟩, .slice A l.length c, .string ⟨X.toArray⟩, .slice A2 m.length d]) ∧ Row w' w'.heap.size A (flatR l) ∧ Row w' w'.heap.size A2 (flatR m) ∧ Below w.heap.size w w'
/-- a text alone -/
def GivesT1 (w : World) (S : List UInt8) (l : List RunP) (e : Ending) (w' : World) : Prop :=
  ∃ A c, e = .returned (.agg #[.string ⟨S.toArray⟩, .slice A l.length c]) ∧ w'.ownsRow w.heap.size 51 2 (.slice A l.length c) l.length (flatR l) ∧ Below w.heap.size w w'
/-- the world behind five stores -/
theorem edit_end {w w3 : World} {gr : Nat} {A A2 : Option Addr} {v0 v1 v2 v3 v4 : Value} {l m : List RunP} {s x : ByteArray} (a : Int) (hb : Below w.heap.size w w3) (hg : Blk w3 gr 32 #[v0, v1, v2, v3, v4]) (h1 : w.heap.size ≤ gr)
    (r1 : RowN w3 gr A (flatR l)) (r2 : RowN w3 gr A2 (flatR m)) (y z : Value) :
    Blk (((((w3.setCell ⟨gr, 0, none⟩ (.int .i64 a)).setCell ⟨gr, 1, none⟩ (.string s)).setCell ⟨gr, 2, none⟩ y).setCell ⟨gr, 3, none⟩ (.string x)).setCell ⟨gr, 4, none⟩ z) gr 32 #[.int .i64 a, .string s, y, .string x, z] ∧
    Row (((((w3.setCell ⟨gr, 0, none⟩ (.int .i64 a)).setCell ⟨gr, 1, none⟩ (.string s)).setCell ⟨gr, 2, none⟩ y).setCell ⟨gr, 3, none⟩ (.string x)).setCell ⟨gr, 4, none⟩ z) (((((w3.setCell ⟨gr, 0, none⟩ (.int .i64 a)).setCell ⟨gr, 1, none⟩ (.string s)).setCell ⟨gr, 2, none⟩ y).setCell ⟨gr, 3, none⟩ (.string x)).setCell ⟨gr, 4, none⟩ z).heap.size A (flatR l) ∧
    Row (((((w3.setCell ⟨gr, 0, none⟩ (.int .i64 a)).setCell ⟨gr, 1, none⟩ (.string s)).setCell ⟨gr, 2, none⟩ y).setCell ⟨gr, 3, none⟩ (.string x)).setCell ⟨gr, 4, none⟩ z) (((((w3.setCell ⟨gr, 0, none⟩ (.int .i64 a)).setCell ⟨gr, 1, none⟩ (.string s)).setCell ⟨gr, 2, none⟩ y).setCell ⟨gr, 3, none⟩ (.string x)).setCell ⟨gr, 4, none⟩ z).heap.size A2 (flatR m) ∧
    Below w.heap.size w (((((w3.setCell ⟨gr, 0, none⟩ (.int .i64 a)).setCell ⟨gr, 1, none⟩ (.string s)).setCell ⟨gr, 2, none⟩ y).setCell ⟨gr, 3, none⟩ (.string x)).setCell ⟨gr, 4, none⟩ z) := by
  refine ⟨blk_five hg _ _ _ _ _, (((((r1.set 0 _).set 1 _).set 2 _).set 3 _).set 4 _).row, (((((r2.set 0 _).set 1 _).set 2 _).set 3 _).set 4 _).row, ?_⟩
  have hk : ∀ i, w.heap.size ≤ (⟨gr, i, none⟩ : Addr).block := fun i => h1
  exact ((((hb.setCell (hk 0) _).setCell (hk 1) _).setCell (hk 2) _).setCell (hk 3) _).setCell (hk 4) _
end Go.Proofs.YtgmeamefbfgbgaaDoor

/-
  Contracts: is an edit good, is it short: layer 7.
-/
namespace Go.Proofs.YtgmeamefbfgbgaaDoor
set_option maxRecDepth 100000
open Go.RowKit

set_option maxHeartbeats 1000000 in
theorem ediGood_any (A A2 : Option Addr) (c d : Nat) (a : Int) (S X : List UInt8) (l m : List RunP) (w : World) (h : Txu w A S l) (hh : Txu w A2 X m) :
    Calls Tryd.prog 51 #[.agg #[.int .i64 a, .string ⟨S.toArray⟩, .slice A l.length c, .string ⟨X.toArray⟩, .slice A2 m.length d]] w fun e w' => e = .returned (.bool (goodE a S l X m)) ∧ Below w.heap.size w w' := by
  have K := Lib.hid ((blk_box (T := 32) (cs := #[.int .i64 a, .string ⟨S.toArray⟩, .slice A l.length c, .string ⟨X.toArray⟩, .slice A2 m.length d]) w).and ((bel_box (Below.refl w.heap.size w) (.cells #[.int .i64 a, .string ⟨S.toArray⟩, .slice A l.length c, .string ⟨X.toArray⟩, .slice A2 m.length d] 32)).and (((grow_txu h).alloc (.cells #[.int .i64 a, .string ⟨S.toArray⟩, .slice A l.length c, .string ⟨X.toArray⟩, .slice A2 m.length d] 32)).and ((grow_txu hh).alloc (.cells #[.int .i64 a, .string ⟨S.toArray⟩, .slice A l.length c, .string ⟨X.toArray⟩, .slice A2 m.length d] 32)))))
  clear h hh
  obtain ⟨y0, y1, y2, y3, y4⟩ := ed_cells K.out.now.1
  by_cases h1 : goodT S l = true
  · by_cases h2 : goodT X m = true
    · by_cases h3 : 0 ≤ a
      · by_cases h4 : a ≤ 4096
        · have HR : Hid (goodE a S l X m = true) := (goodE_iff _ _ _ _ _).2 ⟨h1, h2, h3, h4⟩
          go_enter Tryd.func51, Tryd.ntmps51
          go_wp2_with (first
            | (go_at_call_of 47 l; refine (stpGood_any A c _ S l _ (Nat.le_refl _) K.out.now.2.2.1).mono ?_; rw [h1]; rintro e w1 ⟨rfl, bb⟩; replace K := Lib.hid (K.out.step bb); clear y0 y1 y2 y3 y4 bb; obtain ⟨y0, y1, y2, y3, y4⟩ := ed_cells K.out.now.1)
            | (go_at_call_of 47 m; refine (stpGood_any A2 d _ X m _ (Nat.le_refl _) K.out.now.2.2.2).mono ?_; rw [h2]; rintro e w2 ⟨rfl, bb⟩; replace K := Lib.hid (K.out.step bb); clear y0 y1 y2 y3 y4 bb; obtain ⟨y0, y1, y2, y3, y4⟩ := ed_cells K.out.now.1))
          go_ret
          exact ⟨by rw [HR.out]; first | rfl | (simp [h3, h4]; done), K.out.now.2.1⟩
        · have HR : Hid (goodE a S l X m = false) := by show _ = _; rw [Bool.eq_false_iff]; exact fun h => h4 ((goodE_iff _ _ _ _ _).1 h).2.2.2
          go_enter Tryd.func51, Tryd.ntmps51
          go_wp2_with (first
            | (go_at_call_of 47 l; refine (stpGood_any A c _ S l _ (Nat.le_refl _) K.out.now.2.2.1).mono ?_; rw [h1]; rintro e w1 ⟨rfl, bb⟩; replace K := Lib.hid (K.out.step bb); clear y0 y1 y2 y3 y4 bb; obtain ⟨y0, y1, y2, y3, y4⟩ := ed_cells K.out.now.1)
            | (go_at_call_of 47 m; refine (stpGood_any A2 d _ X m _ (Nat.le_refl _) K.out.now.2.2.2).mono ?_; rw [h2]; rintro e w2 ⟨rfl, bb⟩; replace K := Lib.hid (K.out.step bb); clear y0 y1 y2 y3 y4 bb; obtain ⟨y0, y1, y2, y3, y4⟩ := ed_cells K.out.now.1))
          go_ret
          exact ⟨by rw [HR.out]; first | rfl | (simp; omega), K.out.now.2.1⟩
      · have HR : Hid (goodE a S l X m = false) := by show _ = _; rw [Bool.eq_false_iff]; exact fun h => h3 ((goodE_iff _ _ _ _ _).1 h).2.2.1
        go_enter Tryd.func51, Tryd.ntmps51
        go_wp2_with (first
          | (go_at_call_of 47 l; refine (stpGood_any A c _ S l _ (Nat.le_refl _) K.out.now.2.2.1).mono ?_; rw [h1]; rintro e w1 ⟨rfl, bb⟩; replace K := Lib.hid (K.out.step bb); clear y0 y1 y2 y3 y4 bb; obtain ⟨y0, y1, y2, y3, y4⟩ := ed_cells K.out.now.1)
          | (go_at_call_of 47 m; refine (stpGood_any A2 d _ X m _ (Nat.le_refl _) K.out.now.2.2.2).mono ?_; rw [h2]; rintro e w2 ⟨rfl, bb⟩; replace K := Lib.hid (K.out.step bb); clear y0 y1 y2 y3 y4 bb; obtain ⟨y0, y1, y2, y3, y4⟩ := ed_cells K.out.now.1))
        go_ret
        exact ⟨by rw [HR.out]; first | rfl | (simp; omega), K.out.now.2.1⟩
    · have HR : Hid (goodE a S l X m = false) := by show _ = _; rw [Bool.eq_false_iff]; exact fun h => h2 ((goodE_iff _ _ _ _ _).1 h).2.1
      rw [Bool.not_eq_true] at h2
      go_enter Tryd.func51, Tryd.ntmps51
      go_wp2_with (first
        | (go_at_call_of 47 l; refine (stpGood_any A c _ S l _ (Nat.le_refl _) K.out.now.2.2.1).mono ?_; rw [h1]; rintro e w1 ⟨rfl, bb⟩; replace K := Lib.hid (K.out.step bb); clear y0 y1 y2 y3 y4 bb; obtain ⟨y0, y1, y2, y3, y4⟩ := ed_cells K.out.now.1)
        | (go_at_call_of 47 m; refine (stpGood_any A2 d _ X m _ (Nat.le_refl _) K.out.now.2.2.2).mono ?_; rw [h2]; rintro e w2 ⟨rfl, bb⟩; replace K := Lib.hid (K.out.step bb); clear y0 y1 y2 y3 y4 bb; obtain ⟨y0, y1, y2, y3, y4⟩ := ed_cells K.out.now.1))
      go_ret
      exact ⟨by rw [HR.out]; first | rfl | (simp; omega), K.out.now.2.1⟩
  · have HR : Hid (goodE a S l X m = false) := by show _ = _; rw [Bool.eq_false_iff]; exact fun h => h1 ((goodE_iff _ _ _ _ _).1 h).1
    rw [Bool.not_eq_true] at h1
    go_enter Tryd.func51, Tryd.ntmps51
    go_wp2_with (go_at_call_of 47 l; refine (stpGood_any A c _ S l _ (Nat.le_refl _) K.out.now.2.2.1).mono ?_; rw [h1]; rintro e w1 ⟨rfl, bb⟩; replace K := Lib.hid (K.out.step bb); clear y0 y1 y2 y3 y4 bb; obtain ⟨y0, y1, y2, y3, y4⟩ := ed_cells K.out.now.1)
    go_ret
    exact ⟨by rw [HR.out]; first | rfl | (simp; omega), K.out.now.2.1⟩

set_option maxHeartbeats 1000000 in
theorem refEGood_any (A A2 : Option Addr) (c d : Nat) (a : Int) (S X : List UInt8) (l m : List RunP) (w : World) (h : Txu w A S l) (hh : Txu w A2 X m) :
    Calls Tryd.prog 71 #[.agg #[.int .i64 a, .string ⟨S.toArray⟩, .slice A l.length c, .string ⟨X.toArray⟩, .slice A2 m.length d]] w fun e w' => e = .returned (.bool (goodE a S l X m)) ∧ Below w.heap.size w w' := by
  have K := Lib.hid ((blk_box (T := 32) (cs := #[.int .i64 a, .string ⟨S.toArray⟩, .slice A l.length c, .string ⟨X.toArray⟩, .slice A2 m.length d]) w).and ((bel_box (Below.refl w.heap.size w) (.cells #[.int .i64 a, .string ⟨S.toArray⟩, .slice A l.length c, .string ⟨X.toArray⟩, .slice A2 m.length d] 32)).and (((grow_txu h).alloc (.cells #[.int .i64 a, .string ⟨S.toArray⟩, .slice A l.length c, .string ⟨X.toArray⟩, .slice A2 m.length d] 32)).and ((grow_txu hh).alloc (.cells #[.int .i64 a, .string ⟨S.toArray⟩, .slice A l.length c, .string ⟨X.toArray⟩, .slice A2 m.length d] 32)))))
  clear h hh
  obtain ⟨y0, y1, y2, y3, y4⟩ := ed_cells K.out.now.1
  by_cases h1 : goodT S l = true
  · by_cases h2 : goodT X m = true
    · by_cases h3 : 0 ≤ a
      · by_cases h4 : a ≤ 4096
        · have HR : Hid (goodE a S l X m = true) := (goodE_iff _ _ _ _ _).2 ⟨h1, h2, h3, h4⟩
          go_enter Tryd.func71, Tryd.ntmps71
          go_wp2_with (first
            | (go_at_call_of 20 l; refine (refTGood_any A c _ S l _ (Nat.le_refl _) K.out.now.2.2.1).mono ?_; rw [h1]; rintro e w1 ⟨rfl, bb⟩; replace K := Lib.hid (K.out.step bb); clear y0 y1 y2 y3 y4 bb; obtain ⟨y0, y1, y2, y3, y4⟩ := ed_cells K.out.now.1)
            | (go_at_call_of 20 m; refine (refTGood_any A2 d _ X m _ (Nat.le_refl _) K.out.now.2.2.2).mono ?_; rw [h2]; rintro e w2 ⟨rfl, bb⟩; replace K := Lib.hid (K.out.step bb); clear y0 y1 y2 y3 y4 bb; obtain ⟨y0, y1, y2, y3, y4⟩ := ed_cells K.out.now.1))
          go_ret
          exact ⟨by rw [HR.out]; first | rfl | (simp [h3, h4]; done), K.out.now.2.1⟩
        · have HR : Hid (goodE a S l X m = false) := by show _ = _; rw [Bool.eq_false_iff]; exact fun h => h4 ((goodE_iff _ _ _ _ _).1 h).2.2.2
          go_enter Tryd.func71, Tryd.ntmps71
          go_wp2_with (first
            | (go_at_call_of 20 l; refine (refTGood_any A c _ S l _ (Nat.le_refl _) K.out.now.2.2.1).mono ?_; rw [h1]; rintro e w1 ⟨rfl, bb⟩; replace K := Lib.hid (K.out.step bb); clear y0 y1 y2 y3 y4 bb; obtain ⟨y0, y1, y2, y3, y4⟩ := ed_cells K.out.now.1)
            | (go_at_call_of 20 m; refine (refTGood_any A2 d _ X m _ (Nat.le_refl _) K.out.now.2.2.2).mono ?_; rw [h2]; rintro e w2 ⟨rfl, bb⟩; replace K := Lib.hid (K.out.step bb); clear y0 y1 y2 y3 y4 bb; obtain ⟨y0, y1, y2, y3, y4⟩ := ed_cells K.out.now.1))
          go_ret
          exact ⟨by rw [HR.out]; first | rfl | (simp; omega), K.out.now.2.1⟩
      · have HR : Hid (goodE a S l X m = false) := by show _ = _; rw [Bool.eq_false_iff]; exact fun h => h3 ((goodE_iff _ _ _ _ _).1 h).2.2.1
        go_enter Tryd.func71, Tryd.ntmps71
        go_wp2_with (first
          | (go_at_call_of 20 l; refine (refTGood_any A c _ S l _ (Nat.le_refl _) K.out.now.2.2.1).mono ?_; rw [h1]; rintro e w1 ⟨rfl, bb⟩; replace K := Lib.hid (K.out.step bb); clear y0 y1 y2 y3 y4 bb; obtain ⟨y0, y1, y2, y3, y4⟩ := ed_cells K.out.now.1)
          | (go_at_call_of 20 m; refine (refTGood_any A2 d _ X m _ (Nat.le_refl _) K.out.now.2.2.2).mono ?_; rw [h2]; rintro e w2 ⟨rfl, bb⟩; replace K := Lib.hid (K.out.step bb); clear y0 y1 y2 y3 y4 bb; obtain ⟨y0, y1, y2, y3, y4⟩ := ed_cells K.out.now.1))
        go_ret
        exact ⟨by rw [HR.out]; first | rfl | (simp; omega), K.out.now.2.1⟩
    · have HR : Hid (goodE a S l X m = false) := by show _ = _; rw [Bool.eq_false_iff]; exact fun h => h2 ((goodE_iff _ _ _ _ _).1 h).2.1
      rw [Bool.not_eq_true] at h2
      go_enter Tryd.func71, Tryd.ntmps71
      go_wp2_with (first
        | (go_at_call_of 20 l; refine (refTGood_any A c _ S l _ (Nat.le_refl _) K.out.now.2.2.1).mono ?_; rw [h1]; rintro e w1 ⟨rfl, bb⟩; replace K := Lib.hid (K.out.step bb); clear y0 y1 y2 y3 y4 bb; obtain ⟨y0, y1, y2, y3, y4⟩ := ed_cells K.out.now.1)
        | (go_at_call_of 20 m; refine (refTGood_any A2 d _ X m _ (Nat.le_refl _) K.out.now.2.2.2).mono ?_; rw [h2]; rintro e w2 ⟨rfl, bb⟩; replace K := Lib.hid (K.out.step bb); clear y0 y1 y2 y3 y4 bb; obtain ⟨y0, y1, y2, y3, y4⟩ := ed_cells K.out.now.1))
      go_ret
      exact ⟨by rw [HR.out]; first | rfl | (simp; omega), K.out.now.2.1⟩
  · have HR : Hid (goodE a S l X m = false) := by show _ = _; rw [Bool.eq_false_iff]; exact fun h => h1 ((goodE_iff _ _ _ _ _).1 h).1
    rw [Bool.not_eq_true] at h1
    go_enter Tryd.func71, Tryd.ntmps71
    go_wp2_with (go_at_call_of 20 l; refine (refTGood_any A c _ S l _ (Nat.le_refl _) K.out.now.2.2.1).mono ?_; rw [h1]; rintro e w1 ⟨rfl, bb⟩; replace K := Lib.hid (K.out.step bb); clear y0 y1 y2 y3 y4 bb; obtain ⟨y0, y1, y2, y3, y4⟩ := ed_cells K.out.now.1)
    go_ret
    exact ⟨by rw [HR.out]; first | rfl | (simp; omega), K.out.now.2.1⟩

end Go.Proofs.YtgmeamefbfgbgaaDoor

/-
  The landed copied: layer 7.
-/
namespace Go.Proofs.YtgmeamefbfgbgaaDoor
set_option maxRecDepth 100000
open Go.RowKit

theorem flatR_cell (l : List RunP) : ∀ u ∈ flatR l, u.oneCell' = true := by
  intro u hu
  unfold flatR at hu
  obtain ⟨r, _, hr⟩ := List.mem_flatMap.1 hu
  simp at hr
  rcases hr with rfl | rfl <;> rfl
/-- the row that an append to nothing makes -/
theorem clone_row (w : World) (A : Option Addr) (c : Nat) (l : List RunP) (hl : l.length ≤ 1000000) (h0 : l ≠ []) (h : Row w w.heap.size A (flatR l)) :
    ∃ v' w', (∀ ty, (Builtin.append_ #[22, 22] ty #[.slice (some ⟨w.heap.size, 0, none⟩) 0 0, .slice A l.length c]).run Tryd.prog (w.alloc (.cells #[] 51)) = .ok v' w') ∧ w'.ownsRow w.heap.size 51 2 v' l.length (flatR l) ∧ Below w.heap.size w w' := by
  obtain ⟨i, hi, hz, h1, h2⟩ := info_parts elt_run.hi
  have hr : Row (w.alloc (.cells #[] 51)) w.heap.size A (flatR l) := h.alloc (Nat.le_refl _) _
  have hs : Src Tryd.prog 2 22 (.slice A l.length c) l.length (flatR l) (w.alloc (.cells #[] 51)) := Src.ofRow elt_run.ht (flatR_len l) (by decide) hr (flatR_cell l)
  have hpos : 0 < l.length := List.length_pos_iff.2 h0
  obtain ⟨v', w', e, ho, hg⟩ := run_append_full (P := Tryd.prog) 22 22 22 51 i _ 2 16 elt_run.ht hi hz h1 h2 elt_run.hz (by decide) 0 0 (some ⟨w.heap.size, 0, none⟩) [] rfl (.inl rfl) (.slice A l.length c) l.length hpos (flatR l) hs (by unfold maxLen; omega) (by omega)
  rw [Nat.zero_add, List.nil_append] at ho
  refine ⟨v', w', fun ty => ?_, own_base ho (by simp), ((Below.refl _ w).alloc (Nat.le_refl _) _).trans ⟨hg.os, hg.tape, hg.output, by have := hg.size; simp at this ⊢; omega, fun k hk => hg.block k (by simp; omega) (by simp)⟩⟩
  exact e

set_option maxHeartbeats 1000000 in
theorem ediClone_any (A : Option Addr) (c : Nat) (l : List RunP) (hl : l.length ≤ 1000000) (w : World) (h : Row w w.heap.size A (flatR l)) :
    Calls Tryd.prog 86 #[.slice A l.length c] w fun e w' => ∃ A' c', e = .returned (.slice A' l.length c') ∧
      w'.ownsRow w.heap.size 51 2 (.slice A' l.length c') l.length (flatR l) ∧ Below w.heap.size w w' := by
  have HH := Lib.hid h
  clear h
  have qT : ∀ (w : World) (a : Option Addr) (n c n' c' : Nat), (binOp .eql 22 (.slice a n c) (.slice none n' c')).run Tryd.prog w = .ok (.bool a.isNone) w := fun w a n c n' c' => Lib.run_eql_slice_nil w _ _ a n c n' c' Tryd.underlying22
  rcases A with _ | ad
  · obtain rfl : l = [] := by
      rcases HH.out with h | ⟨ad, h, _⟩
      · have := congrArg List.length h
        rw [flatR_len] at this
        exact List.eq_nil_of_length_eq_zero (by simp at this; omega)
      · cases h
    go_enter Tryd.func86, Tryd.ntmps86
    go_wp2_with fail
    go_ret
    exact ⟨none, 0, rfl, World.ownsRow_nil _ _ _ _, Below.refl _ _⟩
  · by_cases h0 : l = []
    · subst h0
      go_enter Tryd.func86, Tryd.ntmps86
      go_wp2_with fail
      go_ret
      exact ⟨_, _, rfl, ⟨rfl, .inr ⟨w.heap.size, 0, #[], rfl, Nat.le_refl _, heap_alloc_new w _, Nat.le_refl _, Nat.zero_le _, rfl, rfl⟩⟩, (Below.refl _ w).alloc (Nat.le_refl _) _⟩
    · obtain ⟨v', w', e, ho, hb⟩ := clone_row w (some ad) c l hl h0 HH.out
      obtain ⟨A', c', rfl⟩ := own_form ho
      have HE := Lib.hid e
      clear e
      go_enter Tryd.func86, Tryd.ntmps86
      go_wp2_with (at_builtin; refine wpList_append_eq rfl (.tmp 5) (.tmp 6) 22 22 rfl _ _ rfl rfl (HE.out _) ?_)
      go_ret
      exact ⟨A', c', rfl, ho, hb⟩

theorem two_text (w : World) (s v : Value) : Blk ((w.alloc (.cells #[s, v] 24)).alloc (.cells #[.string ⟨#[]⟩, .slice none 0 0] 24)) (w.heap.size + 1) 24 #[.string ⟨#[]⟩, .slice none 0 0] := by
  have := Blk.new (w.alloc (.cells #[s, v] 24)) 24 #[.string ⟨#[]⟩, .slice none 0 0]
  simpa using this
set_option maxHeartbeats 1000000 in
theorem ediCopied_any (A : Option Addr) (c : Nat) (S : List UInt8) (l : List RunP) (hl : l.length ≤ 1000000) (w : World) (h : Txu w A S l) :
    Calls Tryd.prog 65 #[.agg #[.string ⟨S.toArray⟩, .slice A l.length c]] w (GivesT1 w S l) := by
  have K := Lib.hid (((blk_box (T := 24) (cs := #[.string ⟨S.toArray⟩, .slice A l.length c]) w).alloc (.cells #[.string ⟨#[]⟩, .slice none 0 0] 24)).and ((grow_blk (two_text w (.string ⟨S.toArray⟩) (.slice A l.length c))).and (((bel_box (Below.refl w.heap.size w) (.cells #[.string ⟨S.toArray⟩, .slice A l.length c] 24)).alloc (.cells #[.string ⟨#[]⟩, .slice none 0 0] 24)).and (((grow_txu h).alloc (.cells #[.string ⟨S.toArray⟩, .slice A l.length c] 24)).alloc (.cells #[.string ⟨#[]⟩, .slice none 0 0] 24)))))
  clear h
  go_enter Tryd.func65, Tryd.ntmps65
  go_wp2_with fail
  generalize (w.alloc (.cells #[.string ⟨S.toArray⟩, .slice A l.length c] 24)).alloc (.cells #[.string ⟨#[]⟩, .slice none 0 0] 24) = wb at *
  have K0 : Hid (wb.cell? ⟨w.heap.size, 0, none⟩ = some (.string ⟨S.toArray⟩) ∧ wb.cell? ⟨w.heap.size, 1, none⟩ = some (.slice A l.length c)) := txt_cells K.out.now.1
  have KD : Hid (Grow wb.drew _) := K.out.drewN 1
  have Z : Hid (w.heap.size + 1 < wb.heap.size) := K.out.now.2.1.lt
  go_region_held3 (fun w' => w'.cell? ⟨w.heap.size, 0, none⟩ = some (.string ⟨S.toArray⟩) ∧ w'.cell? ⟨w.heap.size, 1, none⟩ = some (.slice A l.length c))
    (first
      | exact K0.out
      | exact K3.out
      | exact K4.out)
    (first | (go_at_call 86; refine (ediClone_any A c l hl wb.drew KD.out.now.2.2.2.row).mono ?_; rintro e w3 ⟨A3, c3, rfl, own3, bb⟩; have KE := Lib.hid (KD.out.step bb); have K3 : Hid (w3.cell? ⟨w.heap.size, 0, none⟩ = some (.string ⟨S.toArray⟩) ∧ w3.cell? ⟨w.heap.size, 1, none⟩ = some (.slice A l.length c)) := txt_cells KE.out.now.1; obtain ⟨y0, y1, y2, y3⟩ := txt_var KE.out.now.2.1; have own4 : w3.ownsRow wb.heap.size 51 2 (.slice A3 l.length c3) l.length (flatR l) := own3; have HO := Lib.hid own4; have K4 : Hid (((w3.setCell ⟨w.heap.size + 1, 0, none⟩ (.string ⟨S.toArray⟩)).setCell ⟨w.heap.size + 1, 1, none⟩ (.slice A3 l.length c3)).cell? ⟨w.heap.size, 0, none⟩ = some (.string ⟨S.toArray⟩) ∧ ((w3.setCell ⟨w.heap.size + 1, 0, none⟩ (.string ⟨S.toArray⟩)).setCell ⟨w.heap.size + 1, 1, none⟩ (.slice A3 l.length c3)).cell? ⟨w.heap.size, 1, none⟩ = some (.slice A l.length c)) := txt_cells ((KE.out.now.1.far (p := ⟨w.heap.size + 1, 0, none⟩) (by show w.heap.size ≠ w.heap.size + 1; omega) _).far (p := ⟨w.heap.size + 1, 1, none⟩) (by show w.heap.size ≠ w.heap.size + 1; omega) _); clear own3 own4 bb))
  go_wp2
  refine ret_text1 rfl _ _ (w.heap.size + 1) _ _ rfl (blk_two KE.out.now.2.1 _ _) rfl ?_
  have z := Z.out
  have hk : w.heap.size + 1 < wb.heap.size := z
  refine ⟨A3, c3, rfl, own_base (own_away (own_away HO.out (p := ⟨w.heap.size + 1, 0, none⟩) hk _) (p := ⟨w.heap.size + 1, 1, none⟩) hk _) (by omega), (KE.out.now.2.2.1.setCell (by show w.heap.size ≤ w.heap.size + 1; omega) _).setCell (by show w.heap.size ≤ w.heap.size + 1; omega) _⟩
end Go.Proofs.YtgmeamefbfgbgaaDoor

/-
  The landed Apply and Check: layer 7.
-/
namespace Go.Proofs.YtgmeamefbfgbgaaDoor
set_option maxRecDepth 100000
open Go.RowKit

section
variable {w wx : World} {F : World → Prop}
/-- one variable more: a text that was just answered -/
theorem Grow.var {A : Option Addr} {c : Nat} {V : List UInt8} {r : List RunP} (K : Grow wx F) (h : Txu wx A V r) :
    Grow (wx.alloc (.cells #[.string ⟨V.toArray⟩, .slice A r.length c] 24)) (fun w' => (Blk w' wx.heap.size 24 #[.string ⟨V.toArray⟩, .slice A r.length c] ∧ Txu w' A V r) ∧ F w') :=
  ((blk_box wx).and ((grow_txu h).alloc _)).and (K.alloc _)
theorem Grow.evar {A B : Option Addr} {c d : Nat} {a : Int} {V X : List UInt8} {r m : List RunP} (K : Grow wx F) (h : Txu wx A V r) (hh : Txu wx B X m) :
    Grow (wx.alloc (.cells #[.int .i64 a, .string ⟨V.toArray⟩, .slice A r.length c, .string ⟨X.toArray⟩, .slice B m.length d] 32)) (fun w' => (Blk w' wx.heap.size 32 #[.int .i64 a, .string ⟨V.toArray⟩, .slice A r.length c, .string ⟨X.toArray⟩, .slice B m.length d] ∧ Txu w' A V r ∧ Txu w' B X m) ∧ F w') :=
  ((blk_box wx).and (((grow_txu h).and (grow_txu hh)).alloc _)).and (K.alloc _)
theorem boxesE2 (w : World) (T0 T1 : TypeId) (c0 c1 : Array Value) : Grow ((w.alloc (.cells c0 T0)).alloc (.cells c1 T1)) (fun w' => Blk w' w.heap.size T0 c0 ∧ Blk w' (w.heap.size + 1) T1 c1 ∧ Below w.heap.size w w') := by
  have e : (w.alloc (.cells c0 T0)).heap.size = w.heap.size + 1 := by simp
  refine ((blk_box w).alloc _).and (Grow.and ?_ (grow_bel (((Below.refl _ w).alloc (Nat.le_refl _) _).alloc (by omega) _)))
  rw [← e]; exact blk_box _
theorem boxesE3 (w : World) (T0 T1 T2 : TypeId) (c0 c1 c2 : Array Value) : Grow (((w.alloc (.cells c0 T0)).alloc (.cells c1 T1)).alloc (.cells c2 T2)) (fun w' => Blk w' w.heap.size T0 c0 ∧ Blk w' (w.heap.size + 1) T1 c1 ∧ Blk w' (w.heap.size + 1 + 1) T2 c2 ∧ Below w.heap.size w w') := by
  have e : ((w.alloc (.cells c0 T0)).alloc (.cells c1 T1)).heap.size = w.heap.size + 1 + 1 := by simp
  have h2 := (boxesE2 w T0 T1 c0 c1).alloc (.cells c2 T2)
  have h3 : Grow (((w.alloc (.cells c0 T0)).alloc (.cells c1 T1)).alloc (.cells c2 T2)) (fun w' => Blk w' (w.heap.size + 1 + 1) T2 c2) := by rw [← e]; exact blk_box _
  exact fun w' hb => ⟨(h2 w' hb).1, (h2 w' hb).2.1, h3 w' hb, (h2 w' hb).2.2⟩
end

set_option maxHeartbeats 2000000 in
theorem ediApply_any (A A2 A3 : Option Addr) (c d d3 : Nat) (S : List UInt8) (l : List RunP) (a : Int) (U : List UInt8) (q : List RunP) (X : List UInt8) (m : List RunP) (w : World) (h : Txu w A S l) (hU : Txu w A2 U q) (hX : Txu w A3 X m) :
    Calls Tryd.prog 23 #[.agg #[.string ⟨S.toArray⟩, .slice A l.length c], .agg #[.int .i64 a, .string ⟨U.toArray⟩, .slice A2 q.length d, .string ⟨X.toArray⟩, .slice A3 m.length d3]] w (GivesT w (applyE S l a U q X m)) := by
  have FL := Lib.hid (And.intro h.hf hX.hf)
  have BX := Lib.hid (boxesE3 w 24 32 24 #[.string ⟨S.toArray⟩, .slice A l.length c] #[.int .i64 a, .string ⟨U.toArray⟩, .slice A2 q.length d, .string ⟨X.toArray⟩, .slice A3 m.length d3] #[.string ⟨#[]⟩, .slice none 0 0])
  have K := Lib.hid (BX.out.and (((grow_txu h).and ((grow_txu hU).and (grow_txu hX))).step BX.out.now.2.2.2))
  clear h hU hX BX
  obtain ⟨y0, y1⟩ := txt_cells K.out.now.1.1
  obtain ⟨z0, z1, z2, z3, z4⟩ := ed_cells K.out.now.1.2.1
  obtain ⟨u0, u1, u2, u3⟩ := txt_var K.out.now.1.2.2.1
  by_cases hg : goodE a U q X m = true
  · obtain ⟨gU, gX, ha0, ha1⟩ := (goodE_iff a U X q m).1 hg
    have hu : U.length ≤ 4096 := (goodT_size gU).1
    obtain ⟨p, hp⟩ : ∃ p, cutOf S l a (a + (U.length : Int)) = p := ⟨_, rfl⟩
    have HOK : Hid (OkT p) := by show OkT _; rw [← hp]; exact okT_cut FL.out.1 _ _
    have HP := Lib.hid hp
    clear hp gU gX
    obtain ⟨⟨V, r⟩, n⟩ := p
    by_cases hn : n = 0
    · subst hn
      by_cases hs : V = U ∧ r = q
      · obtain ⟨p2, hp2⟩ : ∃ p, spliceT S l a (a + (U.length : Int)) X m = p := ⟨_, rfl⟩
        have HP2 := Lib.hid hp2
        have HR : Hid (applyE S l a U q X m = p2) := by show _ = _; unfold applyE; rw [if_pos hg, HP.out]; dsimp only; rw [if_pos rfl, if_pos ⟨hs.1.symm, hs.2.symm⟩]; exact hp2
        have H3 := Lib.hid (decide_eq_true hs)
        clear hs hp2
        obtain ⟨⟨V2, r2⟩, n2⟩ := p2
        go_enter Tryd.func23, Tryd.ntmps23
        go_wp2_with (first
          | (go_at_call 51; refine (ediGood_any A2 A3 d d3 a U X q m _ K.out.now.2.2.1 K.out.now.2.2.2).mono ?_; rw [hg]; rintro e w1 ⟨rfl, bb⟩; replace K := Lib.hid (K.out.step bb); clear y0 y1 z0 z1 z2 z3 z4 u0 u1 u2 u3; clear bb; obtain ⟨y0, y1⟩ := txt_cells K.out.now.1.1; obtain ⟨z0, z1, z2, z3, z4⟩ := ed_cells K.out.now.1.2.1; obtain ⟨u0, u1, u2, u3⟩ := txt_var K.out.now.1.2.2.1)
          | (go_at_call 52; refine (stpCut_any A c _ S l a (a + (U.length : Int)) _ (Nat.le_refl _) K.out.now.2.1).mono ?_; rw [HP.out]; rintro e w2 ⟨A4, c4, rfl, own, bb⟩; dsimp only at own ⊢; replace K := Lib.hid ((K.out.step bb).var (c := c4) (HOK.out.txt (Row.of_own own))); clear y0 y1 z0 z1 z2 z3 z4 u0 u1 u2 u3; clear own bb; obtain ⟨y0, y1⟩ := txt_cells K.out.now.2.1.1; obtain ⟨z0, z1, z2, z3, z4⟩ := ed_cells K.out.now.2.1.2.1; obtain ⟨u0, u1, u2, u3⟩ := txt_var K.out.now.2.1.2.2.1; obtain ⟨v0, v1⟩ := txt_cells K.out.now.1.1)
          | (go_at_call 53; refine (stpSame_any A4 A2 c4 d _ _ V U r q _ (Nat.le_refl _) (Nat.le_refl _) K.out.now.1.2 K.out.now.2.2.2.1).mono ?_; rw [H3.out]; rintro e w3 ⟨rfl, bb⟩; replace K := Lib.hid (K.out.step bb); clear y0 y1 z0 z1 z2 z3 z4 u0 u1 u2 u3; clear bb v0 v1; obtain ⟨y0, y1⟩ := txt_cells K.out.now.2.1.1; obtain ⟨z0, z1, z2, z3, z4⟩ := ed_cells K.out.now.2.1.2.1; obtain ⟨u0, u1, u2, u3⟩ := txt_var K.out.now.2.1.2.2.1)
          | (go_at_call 54; have Z := K.out.now.2.1.2.2.1.lt; refine (stpSplice_any A A3 c d3 _ _ S X l m a (a + (U.length : Int)) _ (Nat.le_refl _) (Nat.le_refl _) K.out.now.2.2.1 K.out.now.2.2.2.2).mono ?_; rw [HP2.out]; rintro e w4 ⟨A5, c5, rfl, own, bb⟩; dsimp only at own ⊢; have HO := Lib.hid own; replace K := Lib.hid (K.out.step bb); clear y0 y1 z0 z1 z2 z3 z4 u0 u1 u2 u3; clear own bb; obtain ⟨y0, y1⟩ := txt_cells K.out.now.2.1.1; obtain ⟨z0, z1, z2, z3, z4⟩ := ed_cells K.out.now.2.1.2.1; obtain ⟨u0, u1, u2, u3⟩ := txt_var K.out.now.2.1.2.2.1))
        have E := givesT_end V2 rfl n2 K.out.now.2.1.2.2.2 K.out.now.2.1.2.2.1 (by omega) Z HO.out
        refine ret_text rfl _ _ (w.heap.size + 1 + 1) _ _ rfl E.1 rfl ?_
        rw [HR.out]
        exact E.2
      · have HR : Hid (applyE S l a U q X m = (([], []), 7)) := by show _ = _; unfold applyE; rw [if_pos hg, HP.out]; dsimp only; rw [if_pos rfl, if_neg (fun h => hs ⟨h.1.symm, h.2.symm⟩)]
        have H3 := Lib.hid (decide_eq_false hs)
        clear hs
        go_enter Tryd.func23, Tryd.ntmps23
        go_wp2_with (first
          | (go_at_call 51; refine (ediGood_any A2 A3 d d3 a U X q m _ K.out.now.2.2.1 K.out.now.2.2.2).mono ?_; rw [hg]; rintro e w1 ⟨rfl, bb⟩; replace K := Lib.hid (K.out.step bb); clear y0 y1 z0 z1 z2 z3 z4 u0 u1 u2 u3; clear bb; obtain ⟨y0, y1⟩ := txt_cells K.out.now.1.1; obtain ⟨z0, z1, z2, z3, z4⟩ := ed_cells K.out.now.1.2.1; obtain ⟨u0, u1, u2, u3⟩ := txt_var K.out.now.1.2.2.1)
          | (go_at_call 52; refine (stpCut_any A c _ S l a (a + (U.length : Int)) _ (Nat.le_refl _) K.out.now.2.1).mono ?_; rw [HP.out]; rintro e w2 ⟨A4, c4, rfl, own, bb⟩; dsimp only at own ⊢; replace K := Lib.hid ((K.out.step bb).var (c := c4) (HOK.out.txt (Row.of_own own))); clear y0 y1 z0 z1 z2 z3 z4 u0 u1 u2 u3; clear own bb; obtain ⟨y0, y1⟩ := txt_cells K.out.now.2.1.1; obtain ⟨z0, z1, z2, z3, z4⟩ := ed_cells K.out.now.2.1.2.1; obtain ⟨u0, u1, u2, u3⟩ := txt_var K.out.now.2.1.2.2.1; obtain ⟨v0, v1⟩ := txt_cells K.out.now.1.1)
          | (go_at_call 53; refine (stpSame_any A4 A2 c4 d _ _ V U r q _ (Nat.le_refl _) (Nat.le_refl _) K.out.now.1.2 K.out.now.2.2.2.1).mono ?_; rw [H3.out]; rintro e w3 ⟨rfl, bb⟩; replace K := Lib.hid (K.out.step bb); clear y0 y1 z0 z1 z2 z3 z4 u0 u1 u2 u3; clear bb v0 v1; obtain ⟨y0, y1⟩ := txt_cells K.out.now.2.1.1; obtain ⟨z0, z1, z2, z3, z4⟩ := ed_cells K.out.now.2.1.2.1; obtain ⟨u0, u1, u2, u3⟩ := txt_var K.out.now.2.1.2.2.1))
        have E := givesT_end (l := []) [] rfl 7 K.out.now.2.1.2.2.2 K.out.now.2.1.2.2.1 (by omega) (Nat.lt_succ_self _) (World.ownsRow_nil _ _ _ _)
        refine ret_text rfl _ _ (w.heap.size + 1 + 1) _ _ rfl E.1 rfl ?_
        rw [HR.out]
        exact E.2
    · have HR : Hid (applyE S l a U q X m = (([], []), n)) := by show _ = _; unfold applyE; rw [if_pos hg, HP.out]; dsimp only; rw [if_neg hn]
      have hn' : ((n : Int) == 0) = false := by simp; omega
      clear hn
      go_enter Tryd.func23, Tryd.ntmps23
      go_wp2_with (first
        | (go_at_call 51; refine (ediGood_any A2 A3 d d3 a U X q m _ K.out.now.2.2.1 K.out.now.2.2.2).mono ?_; rw [hg]; rintro e w1 ⟨rfl, bb⟩; replace K := Lib.hid (K.out.step bb); clear y0 y1 z0 z1 z2 z3 z4 u0 u1 u2 u3; clear bb; obtain ⟨y0, y1⟩ := txt_cells K.out.now.1.1; obtain ⟨z0, z1, z2, z3, z4⟩ := ed_cells K.out.now.1.2.1; obtain ⟨u0, u1, u2, u3⟩ := txt_var K.out.now.1.2.2.1)
        | (go_at_call 52; refine (stpCut_any A c _ S l a (a + (U.length : Int)) _ (Nat.le_refl _) K.out.now.2.1).mono ?_; rw [HP.out]; rintro e w2 ⟨A4, c4, rfl, own, bb⟩; dsimp only at own ⊢; replace K := Lib.hid ((K.out.step bb).var (c := c4) (HOK.out.txt (Row.of_own own))); clear y0 y1 z0 z1 z2 z3 z4 u0 u1 u2 u3; clear own bb; obtain ⟨y0, y1⟩ := txt_cells K.out.now.2.1.1; obtain ⟨z0, z1, z2, z3, z4⟩ := ed_cells K.out.now.2.1.2.1; obtain ⟨u0, u1, u2, u3⟩ := txt_var K.out.now.2.1.2.2.1; obtain ⟨v0, v1⟩ := txt_cells K.out.now.1.1))
      have E := givesT_end (l := []) [] rfl n K.out.now.2.1.2.2.2 K.out.now.2.1.2.2.1 (by omega) (Nat.lt_succ_self _) (World.ownsRow_nil _ _ _ _)
      refine ret_text rfl _ _ (w.heap.size + 1 + 1) _ _ rfl E.1 rfl ?_
      rw [HR.out]
      exact E.2
  · have HR : Hid (applyE S l a U q X m = (([], []), 2)) := by show _ = _; unfold applyE; rw [if_neg hg]
    rw [Bool.not_eq_true] at hg
    go_enter Tryd.func23, Tryd.ntmps23
    go_wp2_with (first
      | (go_at_call 51; refine (ediGood_any A2 A3 d d3 a U X q m _ K.out.now.2.2.1 K.out.now.2.2.2).mono ?_; rw [hg]; rintro e w1 ⟨rfl, bb⟩; replace K := Lib.hid (K.out.step bb); clear y0 y1 z0 z1 z2 z3 z4 u0 u1 u2 u3; clear bb; obtain ⟨y0, y1⟩ := txt_cells K.out.now.1.1; obtain ⟨z0, z1, z2, z3, z4⟩ := ed_cells K.out.now.1.2.1; obtain ⟨u0, u1, u2, u3⟩ := txt_var K.out.now.1.2.2.1))
    have E := givesT_end (l := []) [] rfl 2 K.out.now.1.2.2.2 K.out.now.1.2.2.1 (by omega) (Nat.lt_succ_self _) (World.ownsRow_nil _ _ _ _)
    refine ret_text rfl _ _ (w.heap.size + 1 + 1) _ _ rfl E.1 rfl ?_
    rw [HR.out]
    exact E.2

end Go.Proofs.YtgmeamefbfgbgaaDoor

/-
  The landed Invert: layer 7.
-/
namespace Go.Proofs.YtgmeamefbfgbgaaDoor
set_option maxRecDepth 100000
open Go.RowKit

theorem ed_five {w : World} {g T : Nat} {a b c d e : Value} (h : Blk w g T #[a, b, c, d, e]) {k : Nat} (hk : g ≠ k) (v x y z u : Value) :
    Blk (((((w.setCell ⟨k, 0, none⟩ v).setCell ⟨k, 1, none⟩ x).setCell ⟨k, 2, none⟩ y).setCell ⟨k, 3, none⟩ z).setCell ⟨k, 4, none⟩ u) g T #[a, b, c, d, e] :=
  ((((h.far (p := ⟨k, 0, none⟩) hk v).far (p := ⟨k, 1, none⟩) hk x).far (p := ⟨k, 2, none⟩) hk y).far (p := ⟨k, 3, none⟩) hk z).far (p := ⟨k, 4, none⟩) hk u
theorem five_cells {w : World} {g T : Nat} {a b c d e : Value} (h : Blk w g T #[a, b, c, d, e]) {k : Nat} (hk : g ≠ k) (v x y z u : Value) :
    (((((w.setCell ⟨k, 0, none⟩ v).setCell ⟨k, 1, none⟩ x).setCell ⟨k, 2, none⟩ y).setCell ⟨k, 3, none⟩ z).setCell ⟨k, 4, none⟩ u).cell? ⟨g, 0, none⟩ = some a ∧
    (((((w.setCell ⟨k, 0, none⟩ v).setCell ⟨k, 1, none⟩ x).setCell ⟨k, 2, none⟩ y).setCell ⟨k, 3, none⟩ z).setCell ⟨k, 4, none⟩ u).cell? ⟨g, 1, none⟩ = some b ∧
    (((((w.setCell ⟨k, 0, none⟩ v).setCell ⟨k, 1, none⟩ x).setCell ⟨k, 2, none⟩ y).setCell ⟨k, 3, none⟩ z).setCell ⟨k, 4, none⟩ u).cell? ⟨g, 2, none⟩ = some c ∧
    (((((w.setCell ⟨k, 0, none⟩ v).setCell ⟨k, 1, none⟩ x).setCell ⟨k, 2, none⟩ y).setCell ⟨k, 3, none⟩ z).setCell ⟨k, 4, none⟩ u).cell? ⟨g, 3, none⟩ = some d ∧
    (((((w.setCell ⟨k, 0, none⟩ v).setCell ⟨k, 1, none⟩ x).setCell ⟨k, 2, none⟩ y).setCell ⟨k, 3, none⟩ z).setCell ⟨k, 4, none⟩ u).cell? ⟨g, 4, none⟩ = some e := ed_cells (ed_five h hk v x y z u)
theorem belowE_dr {B : Nat} {a b : World} (h : Below B a b) : Below B a b.drew := h.drew
theorem Grow.own {w wx : World} {F : World → Prop} {A : Option Addr} {c g : Nat} {l : List RunP} (K : Grow wx F) (hg : g < w.heap.size) (h : wx.ownsRow w.heap.size 51 2 (.slice A l.length c) l.length (flatR l)) :
    Grow wx (fun w' => RowG w' (g + 1) A (flatR l) ∧ F w') := (grow_rowG ((rowG_own h).less hg)).and K

/-- a text copied, among others -/
theorem copied_in {wb : World} {g : Nat} {A : Option Addr} {c : Nat} {S : List UInt8} {l : List RunP} (hl : l.length ≤ 1000000) (hg : g < wb.heap.size) (hT : ∀ w', Below wb.heap.size wb w' → Txu w' A S l) :
    ∀ w', Below wb.heap.size wb w' → Calls Tryd.prog 65 #[.agg #[.string ⟨S.toArray⟩, .slice A l.length c]] w' fun e w'' => ∃ A' c', e = .returned (.agg #[.string ⟨S.toArray⟩, .slice A' l.length c']) ∧ Hid (Grow w'' (fun v => RowG v (g + 1) A' (flatR l))) ∧ Below wb.heap.size wb w'' ∧ Below w'.heap.size w' w'' := by
  intro w' hb
  refine (ediCopied_any A c S l hl w' (hT w' hb)).mono ?_
  rintro e w'' ⟨A', c', rfl, own, bb⟩
  have := hb.size
  exact ⟨A', c', rfl, grow_rowG ((rowG_own own).less (by omega)), hb.trans (bb.mono hb.size), bb⟩

end Go.Proofs.YtgmeamefbfgbgaaDoor

/-
  The landed Of: layer 7.
-/
namespace Go.Proofs.YtgmeamefbfgbgaaDoor
set_option maxRecDepth 100000
open Go.RowKit

theorem givesE_zero {w w3 : World} {gr : Nat} {v0 v1 v2 v3 v4 : Value} (hb : Below w.heap.size w w3) (hg : Blk w3 gr 32 #[v0, v1, v2, v3, v4]) (h1 : w.heap.size ≤ gr) (n : Nat) :
    Blk (((((w3.setCell ⟨gr, 0, none⟩ (.int .i64 0)).setCell ⟨gr, 1, none⟩ (.string ⟨#[]⟩)).setCell ⟨gr, 2, none⟩ (.slice none 0 0)).setCell ⟨gr, 3, none⟩ (.string ⟨#[]⟩)).setCell ⟨gr, 4, none⟩ (.slice none 0 0)) gr 32 #[.int .i64 0, .string ⟨#[]⟩, .slice none 0 0, .string ⟨#[]⟩, .slice none 0 0] ∧
    GivesE w (⟨0, [], [], [], []⟩, n) (.returned (.tuple #[.agg #[.int .i64 0, .string ⟨#[]⟩, .slice none 0 0, .string ⟨#[]⟩, .slice none 0 0], .int .i64 (n : Nat)])) (((((w3.setCell ⟨gr, 0, none⟩ (.int .i64 0)).setCell ⟨gr, 1, none⟩ (.string ⟨#[]⟩)).setCell ⟨gr, 2, none⟩ (.slice none 0 0)).setCell ⟨gr, 3, none⟩ (.string ⟨#[]⟩)).setCell ⟨gr, 4, none⟩ (.slice none 0 0)) := by
  have E := edit_end (A := none) (A2 := none) (l := []) (m := []) (s := ⟨#[]⟩) (x := ⟨#[]⟩) 0 hb hg h1 (.inl rfl) (.inl rfl) (.slice none 0 0) (.slice none 0 0)
  exact ⟨E.1, none, 0, none, 0, rfl, E.2.1, E.2.2.1, E.2.2.2⟩
theorem givesEN_zero {w w3 : World} {gr : Nat} {v0 v1 v2 v3 v4 : Value} (hb : Below w.heap.size w w3) (hg : Blk w3 gr 32 #[v0, v1, v2, v3, v4]) (h1 : w.heap.size ≤ gr) (n : Nat) :
    Blk (((((w3.setCell ⟨gr, 0, none⟩ (.int .i64 0)).setCell ⟨gr, 1, none⟩ (.string ⟨#[]⟩)).setCell ⟨gr, 2, none⟩ (.slice none 0 0)).setCell ⟨gr, 3, none⟩ (.string ⟨#[]⟩)).setCell ⟨gr, 4, none⟩ (.slice none 0 0)) gr 32 #[.int .i64 0, .string ⟨#[]⟩, .slice none 0 0, .string ⟨#[]⟩, .slice none 0 0] ∧
    GivesEN w (⟨0, [], [], [], []⟩, n) (.returned (.tuple #[.agg #[.int .i64 0, .string ⟨#[]⟩, .slice none 0 0, .string ⟨#[]⟩, .slice none 0 0], .int .i64 (n : Nat)])) (((((w3.setCell ⟨gr, 0, none⟩ (.int .i64 0)).setCell ⟨gr, 1, none⟩ (.string ⟨#[]⟩)).setCell ⟨gr, 2, none⟩ (.slice none 0 0)).setCell ⟨gr, 3, none⟩ (.string ⟨#[]⟩)).setCell ⟨gr, 4, none⟩ (.slice none 0 0)) := by
  have E := edit_end (A := none) (A2 := none) (l := []) (m := []) (s := ⟨#[]⟩) (x := ⟨#[]⟩) 0 hb hg h1 (.inl rfl) (.inl rfl) (.slice none 0 0) (.slice none 0 0)
  exact ⟨E.1, none, 0, none, 0, rfl, .inl rfl, .inl rfl, E.2.2.2⟩
theorem two_far {w : World} {g T : Nat} {a b : Value} (h : Blk w g T #[a, b]) {k : Nat} (hk : g ≠ k) (v x y z u : Value) :
    (((((w.setCell ⟨k, 0, none⟩ v).setCell ⟨k, 1, none⟩ x).setCell ⟨k, 2, none⟩ y).setCell ⟨k, 3, none⟩ z).setCell ⟨k, 4, none⟩ u).cell? ⟨g, 0, none⟩ = some a ∧
    (((((w.setCell ⟨k, 0, none⟩ v).setCell ⟨k, 1, none⟩ x).setCell ⟨k, 2, none⟩ y).setCell ⟨k, 3, none⟩ z).setCell ⟨k, 4, none⟩ u).cell? ⟨g, 1, none⟩ = some b :=
  txt_cells (((((h.far (p := ⟨k, 0, none⟩) hk v).far (p := ⟨k, 1, none⟩) hk x).far (p := ⟨k, 2, none⟩) hk y).far (p := ⟨k, 3, none⟩) hk z).far (p := ⟨k, 4, none⟩) hk u)

set_option maxHeartbeats 2000000 in
theorem ediOf_new (A A2 : Option Addr) (c d : Nat) (S : List UInt8) (l : List RunP) (f t : Int) (X : List UInt8) (m : List RunP) (hm : m.length ≤ 1000000) (w : World) (h : Txu w A S l) (hX : Txu w A2 X m) :
    Calls Tryd.prog 30 #[.agg #[.string ⟨S.toArray⟩, .slice A l.length c], .int .i64 f, .int .i64 t, .agg #[.string ⟨X.toArray⟩, .slice A2 m.length d]] w (GivesEN w (ofE S l f t X m)) := by
  have FL := Lib.hid (And.intro h.hf hX.hf)
  have BX := Lib.hid (boxesE3 w 24 24 32 #[.string ⟨S.toArray⟩, .slice A l.length c] #[.string ⟨X.toArray⟩, .slice A2 m.length d] #[.int .i64 0, .string ⟨#[]⟩, .slice none 0 0, .string ⟨#[]⟩, .slice none 0 0])
  have K := Lib.hid (BX.out.and (((grow_txu h).and (grow_txu hX)).step BX.out.now.2.2.2))
  clear h hX BX
  obtain ⟨y0, y1⟩ := txt_cells K.out.now.1.1
  obtain ⟨z0, z1⟩ := txt_cells K.out.now.1.2.1
  obtain ⟨⟨u0, u1, u2, u3, u4⟩, u5, u6, u7, u8, u9⟩ := ed_var K.out.now.1.2.2.1
  obtain ⟨p, hp⟩ : ∃ p, cutOf S l f t = p := ⟨_, rfl⟩
  have HOK : Hid (OkT p) := by show OkT _; rw [← hp]; exact okT_cut FL.out.1 _ _
  have HP := Lib.hid hp
  clear hp
  obtain ⟨⟨V, r⟩, n⟩ := p
  by_cases hn : n = 0
  · subst hn
    obtain ⟨p2, hp2⟩ : ∃ p, spliceT S l f t X m = p := ⟨_, rfl⟩
    have HOK2 : Hid (OkT p2) := by show OkT _; rw [← hp2]; exact okT_splice FL.out.1 FL.out.2 _ _
    have HP2 := Lib.hid hp2
    clear hp2
    obtain ⟨⟨V2, r2⟩, k⟩ := p2
    by_cases hk : k = 0
    · subst hk
      have HR : Hid (ofE S l f t X m = (⟨f, V, r, X, m⟩, 0)) := by show _ = _; unfold ofE; rw [HP.out, HP2.out]; rfl
      go_enter Tryd.func30, Tryd.ntmps30
      go_upto_region 7 with (first
        | (go_at_call 52; refine (stpCut_any A c _ S l f t _ (Nat.le_refl _) K.out.now.2.1).mono ?_; rw [HP.out]; rintro e w2 ⟨A4, c4, rfl, own, bb⟩; dsimp only at own ⊢; have Z := K.out.now.1.2.2.1.lt; have Z2 := bb.size; replace K := Lib.hid (((K.out.step bb).own Z own).var (c := c4) (HOK.out.txt (Row.of_own own))); clear y0 y1 z0 z1 u0 u1 u2 u3 u4 u5 u6 u7 u8 u9; clear own bb; obtain ⟨y0, y1⟩ := txt_cells K.out.now.2.2.1.1; obtain ⟨z0, z1⟩ := txt_cells K.out.now.2.2.1.2.1; obtain ⟨⟨u0, u1, u2, u3, u4⟩, u5, u6, u7, u8, u9⟩ := ed_var K.out.now.2.2.1.2.2.1)
        | (go_at_call 54; refine (stpSplice_any A A2 c d _ _ S X l m f t _ (Nat.le_refl _) (Nat.le_refl _) K.out.now.2.2.2.1 K.out.now.2.2.2.2).mono ?_; rw [HP2.out]; rintro e w3 ⟨A5, c5, rfl, own, bb⟩; dsimp only at own ⊢; replace K := Lib.hid ((K.out.step bb).var (c := c5) (HOK2.out.txt (Row.of_own own))); clear y0 y1 z0 z1 u0 u1 u2 u3 u4 u5 u6 u7 u8 u9; clear own bb; obtain ⟨y0, y1⟩ := txt_cells K.out.now.2.2.2.1.1; obtain ⟨z0, z1⟩ := txt_cells K.out.now.2.2.2.1.2.1; obtain ⟨⟨u0, u1, u2, u3, u4⟩, u5, u6, u7, u8, u9⟩ := ed_var K.out.now.2.2.2.1.2.2.1))
      generalize w3.alloc (.cells #[.string ⟨V2.toArray⟩, .slice A5 r2.length c5] 24) = wb at *
      generalize w2.heap.size = g10 at *
      clear y0 y1 z0 z1 u0 u1 u2 u3 u4 u5 u6 u7 u8 u9
      have hb0 : Below wb.heap.size wb wb := Below.refl _ _
      have Z3 : Hid (w.heap.size + 1 + 1 < wb.heap.size) := K.out.now.2.2.2.1.2.2.1.lt
      have ZN : Hid (g10 ≠ w.heap.size + 1 + 1 ∧ w.heap.size + 1 ≠ w.heap.size + 1 + 1) := ⟨by omega, by omega⟩
      clear Z Z2
      have TM := Lib.hid (copied_in (A := A2) (c := d) (S := X) hm Z3.out (fun w' hb => (K.out w' hb).2.2.2.2.2))
      have KB := Lib.hid (fun w' hb => And.intro (txt_cells (K.out w' hb).2.1.1) (txt_cells (K.out w' hb).2.2.2.1.2.1))
      go_region_held3 (fun w' => (w'.cell? ⟨g10, 0, none⟩ = some (.string ⟨V.toArray⟩) ∧ w'.cell? ⟨g10, 1, none⟩ = some (.slice A4 r.length c4)) ∧ w'.cell? ⟨w.heap.size + 1, 0, none⟩ = some (.string ⟨X.toArray⟩) ∧ w'.cell? ⟨w.heap.size + 1, 1, none⟩ = some (.slice A2 m.length d))
        (first
          | (refine KB.out _ ?_; first | assumption | exact belowE_dr hb0)
          | (refine And.intro (two_far (K.out _ ?_).2.1.1 ZN.out.1 _ _ _ _ _) (two_far (K.out _ ?_).2.2.2.1.2.1 ZN.out.2 _ _ _ _ _) <;> (first | assumption | exact belowE_dr hb0)))
        (first
          | (go_at_call 65; refine (TM.out _ ?_).mono ?_; (first | assumption | exact belowE_dr hb0); rintro e w4 ⟨A6, c6, rfl, rm, hbx, hby⟩; obtain ⟨⟨u0, u1, u2, u3, u4⟩, u5, u6, u7, u8, u9⟩ := ed_var (K.out _ hbx).2.2.2.1.2.2.1))
      all_goals go_wp2
      all_goals
        have E := edit_end f (K.out _ hbx).2.2.2.1.2.2.2 (K.out _ hbx).2.2.2.1.2.2.1 (by omega) (A := A4) (A2 := A6) (l := r) (m := m) (s := ⟨V.toArray⟩) (x := ⟨X.toArray⟩) ((K.out _ hbx).2.2.1.toN (Nat.lt_succ_self _)) (rm.out.now.toN (Nat.lt_succ_self _)) (.slice A4 r.length c4) (.slice A6 m.length c6)
        refine ret_edit rfl _ _ (w.heap.size + 1 + 1) _ _ _ _ _ rfl E.1 rfl ?_
        rw [HR.out]
        exact ⟨A4, c4, A6, c6, rfl, ((K.out _ hbx).2.2.1.five (Nat.lt_succ_self _) _ _ _ _ _).less (by omega), (rm.out.now.five (Nat.lt_succ_self _) _ _ _ _ _).less (by omega), E.2.2.2⟩
    · have HR : Hid (ofE S l f t X m = (⟨0, [], [], [], []⟩, k)) := by show _ = _; unfold ofE; rw [HP.out, HP2.out]; dsimp only; rw [if_pos rfl, if_neg hk]
      have hk' : ((k : Int) == 0) = false := by simp; omega
      clear hk
      go_enter Tryd.func30, Tryd.ntmps30
      go_wp2_with (first
        | (go_at_call 52; refine (stpCut_any A c _ S l f t _ (Nat.le_refl _) K.out.now.2.1).mono ?_; rw [HP.out]; rintro e w2 ⟨A4, c4, rfl, own, bb⟩; dsimp only at own ⊢; have Z := K.out.now.1.2.2.1.lt; have Z2 := bb.size; replace K := Lib.hid (((K.out.step bb).own Z own).var (c := c4) (HOK.out.txt (Row.of_own own))); clear y0 y1 z0 z1 u0 u1 u2 u3 u4 u5 u6 u7 u8 u9; clear own bb; obtain ⟨y0, y1⟩ := txt_cells K.out.now.2.2.1.1; obtain ⟨z0, z1⟩ := txt_cells K.out.now.2.2.1.2.1; obtain ⟨⟨u0, u1, u2, u3, u4⟩, u5, u6, u7, u8, u9⟩ := ed_var K.out.now.2.2.1.2.2.1)
        | (go_at_call 54; refine (stpSplice_any A A2 c d _ _ S X l m f t _ (Nat.le_refl _) (Nat.le_refl _) K.out.now.2.2.2.1 K.out.now.2.2.2.2).mono ?_; rw [HP2.out]; rintro e w3 ⟨A5, c5, rfl, own, bb⟩; dsimp only at own ⊢; replace K := Lib.hid ((K.out.step bb).var (c := c5) (HOK2.out.txt (Row.of_own own))); clear y0 y1 z0 z1 u0 u1 u2 u3 u4 u5 u6 u7 u8 u9; clear own bb; obtain ⟨y0, y1⟩ := txt_cells K.out.now.2.2.2.1.1; obtain ⟨z0, z1⟩ := txt_cells K.out.now.2.2.2.1.2.1; obtain ⟨⟨u0, u1, u2, u3, u4⟩, u5, u6, u7, u8, u9⟩ := ed_var K.out.now.2.2.2.1.2.2.1))
      have E := givesEN_zero K.out.now.2.2.2.1.2.2.2 K.out.now.2.2.2.1.2.2.1 (by omega) k
      refine ret_edit rfl _ _ (w.heap.size + 1 + 1) _ _ _ _ _ rfl E.1 rfl ?_
      rw [HR.out]
      exact E.2
  · have HR : Hid (ofE S l f t X m = (⟨0, [], [], [], []⟩, n)) := by show _ = _; unfold ofE; rw [HP.out]; dsimp only; rw [if_neg hn]
    have hn' : ((n : Int) == 0) = false := by simp; omega
    clear hn
    go_enter Tryd.func30, Tryd.ntmps30
    go_wp2_with (go_at_call 52; refine (stpCut_any A c _ S l f t _ (Nat.le_refl _) K.out.now.2.1).mono ?_; rw [HP.out]; rintro e w2 ⟨A4, c4, rfl, own, bb⟩; dsimp only at own ⊢; have Z := K.out.now.1.2.2.1.lt; have Z2 := bb.size; replace K := Lib.hid (((K.out.step bb).own Z own).var (c := c4) (HOK.out.txt (Row.of_own own))); clear y0 y1 z0 z1 u0 u1 u2 u3 u4 u5 u6 u7 u8 u9; clear own bb; obtain ⟨y0, y1⟩ := txt_cells K.out.now.2.2.1.1; obtain ⟨z0, z1⟩ := txt_cells K.out.now.2.2.1.2.1; obtain ⟨⟨u0, u1, u2, u3, u4⟩, u5, u6, u7, u8, u9⟩ := ed_var K.out.now.2.2.1.2.2.1)
    have E := givesEN_zero K.out.now.2.2.1.2.2.2 K.out.now.2.2.1.2.2.1 (by omega) n
    refine ret_edit rfl _ _ (w.heap.size + 1 + 1) _ _ _ _ _ rfl E.1 rfl ?_
    rw [HR.out]
    exact E.2
theorem ediOf_any (A A2 : Option Addr) (c d : Nat) (S : List UInt8) (l : List RunP) (f t : Int) (X : List UInt8) (m : List RunP) (hm : m.length ≤ 1000000) (w : World) (h : Txu w A S l) (hX : Txu w A2 X m) :
    Calls Tryd.prog 30 #[.agg #[.string ⟨S.toArray⟩, .slice A l.length c], .int .i64 f, .int .i64 t, .agg #[.string ⟨X.toArray⟩, .slice A2 m.length d]] w (GivesE w (ofE S l f t X m)) := (ediOf_new A A2 c d S l f t X m hm w h hX).mono fun _ _ h => h.gives
end Go.Proofs.YtgmeamefbfgbgaaDoor

/-
  Contracts of the document's own answers, layer 7: Of, Invert, Same.
-/
namespace Go.Proofs.YtgmeamefbfgbgaaDoor
set_option maxRecDepth 100000
open Go.RowKit

theorem grow_txt {wx : World} {A : Option Addr} {S : List UInt8} {l : List RunP} (h : Txu wx A S l) : Grow wx (fun w' => Txt w' wx.heap.size A S l) := fun _ hb => Txt.below h hb

set_option maxHeartbeats 2000000 in
theorem refEOf_any (A A2 : Option Addr) (c d : Nat) (S : List UInt8) (l : List RunP) (f t : Int) (X : List UInt8) (m : List RunP) (w : World) (h : Txu w A S l) (hX : Txu w A2 X m) :
    Calls Tryd.prog 38 #[.agg #[.string ⟨S.toArray⟩, .slice A l.length c], .int .i64 f, .int .i64 t, .agg #[.string ⟨X.toArray⟩, .slice A2 m.length d]] w (GivesE w (ofE S l f t X m)) := by
  have FL := Lib.hid (And.intro h.hf hX.hf)
  have HT := Lib.hid (grow_txt hX)
  have BX := Lib.hid (boxesE3 w 24 24 32 #[.string ⟨S.toArray⟩, .slice A l.length c] #[.string ⟨X.toArray⟩, .slice A2 m.length d] #[.int .i64 0, .string ⟨#[]⟩, .slice none 0 0, .string ⟨#[]⟩, .slice none 0 0])
  have K := Lib.hid (BX.out.and (((grow_txu h).and (grow_txu hX)).step BX.out.now.2.2.2))
  clear h hX BX
  obtain ⟨y0, y1⟩ := txt_cells K.out.now.1.1; obtain ⟨z0, z1⟩ := txt_cells K.out.now.1.2.1; obtain ⟨⟨u0, u1, u2, u3, u4⟩, u5, u6, u7, u8, u9⟩ := ed_var K.out.now.1.2.2.1
  obtain ⟨p, hp⟩ : ∃ p, cutOf S l f t = p := ⟨_, rfl⟩
  have HOK : Hid (OkT p) := by show OkT _; rw [← hp]; exact okT_cut FL.out.1 _ _
  have HP := Lib.hid hp
  clear hp
  obtain ⟨⟨V, r⟩, n⟩ := p
  by_cases hn : n = 0
  · subst hn
    have hw : withinT S l f t = true := cutOf_zero (by rw [HP.out])
    obtain ⟨gS, f0, f1, f2⟩ := withinT_of hw
    have s1 : S.length ≤ 4096 := (goodT_size gS).1
    by_cases hg : goodT X m = true
    · have x1 : X.length ≤ 4096 := (goodT_size hg).1
      by_cases hb : (S.length : Int) - (t - f) + (X.length : Int) ≤ 4096
      · have HR : Hid (ofE S l f t X m = (⟨f, V, r, X, m⟩, 0)) := by show _ = _; unfold ofE; rw [HP.out, spliceT_ok hw hg hb]; rfl
        clear hw gS
        go_enter Tryd.func38, Tryd.ntmps38
        go_wp2_with (first
          | (go_at_call 36; refine (refTCut_any A c _ S l f t _ (Nat.le_refl _) K.out.now.2.1).mono ?_; rw [HP.out]; rintro e w2 ⟨A4, c4, rfl, own, bb⟩; dsimp only at own ⊢; have Z := K.out.now.1.2.2.1.lt; replace K := Lib.hid (((K.out.step bb).own Z own).var (c := c4) (HOK.out.txt (Row.of_own own))); clear y0 y1 z0 z1 u0 u1 u2 u3 u4 u5 u6 u7 u8 u9; clear own bb; obtain ⟨y0, y1⟩ := txt_cells K.out.now.2.2.1.1; obtain ⟨z0, z1⟩ := txt_cells K.out.now.2.2.1.2.1; obtain ⟨⟨u0, u1, u2, u3, u4⟩, u5, u6, u7, u8, u9⟩ := ed_var K.out.now.2.2.1.2.2.1; obtain ⟨v0, v1⟩ := txt_cells K.out.now.1.1)
          | (go_at_call 20; refine (refTGood_any A2 d _ X m _ (Nat.le_refl _) K.out.now.2.2.2.2).mono ?_; rw [hg]; rintro e w3 ⟨rfl, bb⟩; replace K := Lib.hid (K.out.step bb); clear y0 y1 z0 z1 u0 u1 u2 u3 u4 u5 u6 u7 u8 u9; clear bb v0 v1; obtain ⟨y0, y1⟩ := txt_cells K.out.now.2.2.1.1; obtain ⟨z0, z1⟩ := txt_cells K.out.now.2.2.1.2.1; obtain ⟨⟨u0, u1, u2, u3, u4⟩, u5, u6, u7, u8, u9⟩ := ed_var K.out.now.2.2.1.2.2.1; obtain ⟨v0, v1⟩ := txt_cells K.out.now.1.1))
        have E := edit_end f K.out.now.2.2.1.2.2.2 K.out.now.2.2.1.2.2.1 (by omega) (A := A4) (A2 := A2) (l := r) (m := m) (s := ⟨V.toArray⟩) (x := ⟨X.toArray⟩) (K.out.now.2.1.toN (Nat.lt_succ_self _)) (rowN_row (HT.out _ K.out.now.2.2.1.2.2.2).row K.out.now.2.2.1.2.2.2.size (by omega)) (.slice A4 r.length c4) (.slice A2 m.length d)
        refine ret_edit rfl _ _ (w.heap.size + 1 + 1) _ _ _ _ _ rfl E.1 rfl ?_
        rw [HR.out]
        exact ⟨A4, c4, A2, d, rfl, E.2.1, E.2.2.1, E.2.2.2⟩
      · have HR : Hid (ofE S l f t X m = (⟨0, [], [], [], []⟩, 3)) := by show _ = _; unfold ofE; rw [HP.out, spliceT_big hw hg hb]; rfl
        clear hw gS
        go_enter Tryd.func38, Tryd.ntmps38
        go_wp2_with (first
          | (go_at_call 36; refine (refTCut_any A c _ S l f t _ (Nat.le_refl _) K.out.now.2.1).mono ?_; rw [HP.out]; rintro e w2 ⟨A4, c4, rfl, own, bb⟩; dsimp only at own ⊢; have Z := K.out.now.1.2.2.1.lt; replace K := Lib.hid (((K.out.step bb).own Z own).var (c := c4) (HOK.out.txt (Row.of_own own))); clear y0 y1 z0 z1 u0 u1 u2 u3 u4 u5 u6 u7 u8 u9; clear own bb; obtain ⟨y0, y1⟩ := txt_cells K.out.now.2.2.1.1; obtain ⟨z0, z1⟩ := txt_cells K.out.now.2.2.1.2.1; obtain ⟨⟨u0, u1, u2, u3, u4⟩, u5, u6, u7, u8, u9⟩ := ed_var K.out.now.2.2.1.2.2.1; obtain ⟨v0, v1⟩ := txt_cells K.out.now.1.1)
          | (go_at_call 20; refine (refTGood_any A2 d _ X m _ (Nat.le_refl _) K.out.now.2.2.2.2).mono ?_; rw [hg]; rintro e w3 ⟨rfl, bb⟩; replace K := Lib.hid (K.out.step bb); clear y0 y1 z0 z1 u0 u1 u2 u3 u4 u5 u6 u7 u8 u9; clear bb v0 v1; obtain ⟨y0, y1⟩ := txt_cells K.out.now.2.2.1.1; obtain ⟨z0, z1⟩ := txt_cells K.out.now.2.2.1.2.1; obtain ⟨⟨u0, u1, u2, u3, u4⟩, u5, u6, u7, u8, u9⟩ := ed_var K.out.now.2.2.1.2.2.1; obtain ⟨v0, v1⟩ := txt_cells K.out.now.1.1))
        have E := givesE_zero K.out.now.2.2.1.2.2.2 K.out.now.2.2.1.2.2.1 (by omega) 3
        refine ret_edit rfl _ _ (w.heap.size + 1 + 1) _ _ _ _ _ rfl E.1 rfl ?_
        rw [HR.out]
        exact E.2
    · have HR : Hid (ofE S l f t X m = (⟨0, [], [], [], []⟩, 2)) := by show _ = _; unfold ofE; rw [HP.out, spliceT_bad (fun h => hg h.2)]; rfl
      rw [Bool.not_eq_true] at hg
      clear hw gS
      go_enter Tryd.func38, Tryd.ntmps38
      go_wp2_with (first
        | (go_at_call 36; refine (refTCut_any A c _ S l f t _ (Nat.le_refl _) K.out.now.2.1).mono ?_; rw [HP.out]; rintro e w2 ⟨A4, c4, rfl, own, bb⟩; dsimp only at own ⊢; have Z := K.out.now.1.2.2.1.lt; replace K := Lib.hid (((K.out.step bb).own Z own).var (c := c4) (HOK.out.txt (Row.of_own own))); clear y0 y1 z0 z1 u0 u1 u2 u3 u4 u5 u6 u7 u8 u9; clear own bb; obtain ⟨y0, y1⟩ := txt_cells K.out.now.2.2.1.1; obtain ⟨z0, z1⟩ := txt_cells K.out.now.2.2.1.2.1; obtain ⟨⟨u0, u1, u2, u3, u4⟩, u5, u6, u7, u8, u9⟩ := ed_var K.out.now.2.2.1.2.2.1; obtain ⟨v0, v1⟩ := txt_cells K.out.now.1.1)
        | (go_at_call 20; refine (refTGood_any A2 d _ X m _ (Nat.le_refl _) K.out.now.2.2.2.2).mono ?_; rw [hg]; rintro e w3 ⟨rfl, bb⟩; replace K := Lib.hid (K.out.step bb); clear y0 y1 z0 z1 u0 u1 u2 u3 u4 u5 u6 u7 u8 u9; clear bb v0 v1; obtain ⟨y0, y1⟩ := txt_cells K.out.now.2.2.1.1; obtain ⟨z0, z1⟩ := txt_cells K.out.now.2.2.1.2.1; obtain ⟨⟨u0, u1, u2, u3, u4⟩, u5, u6, u7, u8, u9⟩ := ed_var K.out.now.2.2.1.2.2.1; obtain ⟨v0, v1⟩ := txt_cells K.out.now.1.1))
      have E := givesE_zero K.out.now.2.2.1.2.2.2 K.out.now.2.2.1.2.2.1 (by omega) 2
      refine ret_edit rfl _ _ (w.heap.size + 1 + 1) _ _ _ _ _ rfl E.1 rfl ?_
      rw [HR.out]
      exact E.2
  · obtain rfl : n = 2 := by have := cutOf_two (S := S) (l := l) (f := f) (t := t) (by rw [HP.out]; exact hn); rw [HP.out] at this; injection this
    have HR : Hid (ofE S l f t X m = (⟨0, [], [], [], []⟩, 2)) := by show _ = _; unfold ofE; rw [HP.out]; rfl
    go_enter Tryd.func38, Tryd.ntmps38
    go_wp2_with (first
      | (go_at_call 36; refine (refTCut_any A c _ S l f t _ (Nat.le_refl _) K.out.now.2.1).mono ?_; rw [HP.out]; rintro e w2 ⟨A4, c4, rfl, own, bb⟩; dsimp only at own ⊢; have Z := K.out.now.1.2.2.1.lt; replace K := Lib.hid (((K.out.step bb).own Z own).var (c := c4) (HOK.out.txt (Row.of_own own))); clear y0 y1 z0 z1 u0 u1 u2 u3 u4 u5 u6 u7 u8 u9; clear own bb; obtain ⟨y0, y1⟩ := txt_cells K.out.now.2.2.1.1; obtain ⟨z0, z1⟩ := txt_cells K.out.now.2.2.1.2.1; obtain ⟨⟨u0, u1, u2, u3, u4⟩, u5, u6, u7, u8, u9⟩ := ed_var K.out.now.2.2.1.2.2.1; obtain ⟨v0, v1⟩ := txt_cells K.out.now.1.1))
    have E := givesE_zero K.out.now.2.2.1.2.2.2 K.out.now.2.2.1.2.2.1 (by omega) 2
    refine ret_edit rfl _ _ (w.heap.size + 1 + 1) _ _ _ _ _ rfl E.1 rfl ?_
    rw [HR.out]
    exact E.2

set_option maxHeartbeats 1000000 in
/-- an edit is the same as itself, wherever its runs lie -/
theorem refESame_any (A A2 B B2 : Option Addr) (c d c2 d2 : Nat) (a : Int) (S : List UInt8) (l : List RunP) (X : List UInt8) (m : List RunP) (w : World) (h : Txu w A S l) (hX : Txu w A2 X m) (h2 : Txu w B S l) (hX2 : Txu w B2 X m) :
    Calls Tryd.prog 14 #[.agg #[.int .i64 a, .string ⟨S.toArray⟩, .slice A l.length c, .string ⟨X.toArray⟩, .slice A2 m.length d], .agg #[.int .i64 a, .string ⟨S.toArray⟩, .slice B l.length c2, .string ⟨X.toArray⟩, .slice B2 m.length d2]] w fun e w' => e = .returned (.bool true) ∧ Below w.heap.size w w' := by
  have BX := Lib.hid (boxesE2 w 32 32 #[.int .i64 a, .string ⟨S.toArray⟩, .slice A l.length c, .string ⟨X.toArray⟩, .slice A2 m.length d] #[.int .i64 a, .string ⟨S.toArray⟩, .slice B l.length c2, .string ⟨X.toArray⟩, .slice B2 m.length d2])
  have K := Lib.hid (BX.out.and (((grow_txu h).and ((grow_txu hX).and ((grow_txu h2).and (grow_txu hX2)))).step BX.out.now.2.2))
  clear h hX h2 hX2 BX
  obtain ⟨y0, y1, y2, y3, y4⟩ := ed_cells K.out.now.1.1
  obtain ⟨u0, u1, u2, u3, u4⟩ := ed_cells K.out.now.1.2.1
  go_enter Tryd.func14, Tryd.ntmps14
  go_wp2_with (first
    | (go_at_call_of 39 S; refine (refTSame_any A B c c2 _ _ S S l l _ (Nat.le_refl _) (Nat.le_refl _) K.out.now.2.1 K.out.now.2.2.2.1).mono ?_; rw [decide_eq_true ⟨rfl, rfl⟩]; rintro e w1 ⟨rfl, bb⟩; replace K := Lib.hid (K.out.step bb); clear bb y0 y1 y2 y3 y4 u0 u1 u2 u3 u4; obtain ⟨y0, y1, y2, y3, y4⟩ := ed_cells K.out.now.1.1; obtain ⟨u0, u1, u2, u3, u4⟩ := ed_cells K.out.now.1.2.1)
    | (go_at_call_of 39 X; refine (refTSame_any A2 B2 d d2 _ _ X X m m _ (Nat.le_refl _) (Nat.le_refl _) K.out.now.2.2.1 K.out.now.2.2.2.2).mono ?_; rw [decide_eq_true ⟨rfl, rfl⟩]; rintro e w2 ⟨rfl, bb⟩; replace K := Lib.hid (K.out.step bb); clear bb y0 y1 y2 y3 y4 u0 u1 u2 u3 u4))
  go_ret
  exact ⟨rfl, K.out.now.1.2.2⟩
end Go.Proofs.YtgmeamefbfgbgaaDoor

/-
  An edit as one of three results; rows beside a block without labels; a new block: layers 7, 14, 15.
-/
namespace Go.Proofs.YtgmeamefbfgbgaaDoor
open Go.RowKit
set_option maxRecDepth 100000

/-- no label among some cells -/
def NoLab (cs : Array Value) : Prop := ∀ v ∈ cs.toList, ∀ n : Int, v ≠ .int .u64 n
theorem rowN_noLab {wx : World} {B g T : Nat} {A : Option Addr} {l : List RunP} {cs : Array Value} (h : Row wx B A (flatR l)) (hB : B ≤ wx.heap.size) (hg : Blk wx g T cs) (hcs : NoLab cs) : RowN wx g A (flatR l) := by
  rcases l with _ | ⟨r, l⟩
  · exact .inl rfl
  · rcases h with h | ⟨ad, e, hb, hc⟩
    · exact .inl h
    · refine .inr ⟨ad, e, fun hbg => ?_, by omega, hc⟩
      have h0 : wx.cell? (ad.add 0) = some (.int .u64 (r.1 : Nat)) := hc 0 _ rfl
      have ha : ad.add 0 = ad := rfl
      have hh : wx.heap[ad.block]? = some (.cells cs T (0, 0)) := by rw [hbg]; exact hg
      rw [ha] at h0
      unfold World.cell? at h0
      rw [hh] at h0
      dsimp only at h0
      split at h0
      · cases h0
      · obtain ⟨h1, h2⟩ := Array.getElem?_eq_some_iff.1 h0
        exact hcs _ (by rw [Array.mem_toList_iff, Array.mem_iff_getElem]; exact ⟨_, h1, h2⟩) _ rfl
theorem noLab_edit (a : Int) (s t : ByteArray) (A B : Option Addr) (i j k m : Nat) : NoLab #[.int .i64 a, .string s, .slice A i j, .string t, .slice B k m] := by
  intro v hv n
  simp at hv
  rcases hv with rfl | rfl | rfl | rfl | rfl <;> simp
theorem cell_tmp2O {fn : Func} {p q u : Tmp} {ty : TypeId} (h : fn.results = #[.cell p ty, .tmp q, .tmp u]) (tmps : Array Value) (P : Program) (w : World) :
    (results fn tmps).run P w =
      ((asAddr (tmps.getD p undef)).run P w).andThen fun a w₁ => ((loadVar ty a).run P w₁).andThen fun v w₂ => .ok (.tuple #[v, tmps.getD q undef, tmps.getD u undef]) w₂ := by
  simp only [results, h]
  simp [Sem.run_bind, Result.andThen]
theorem ret_edit3 {fn : Func} {p q2 u : Tmp} (h : fn.results = #[.cell p 32, .tmp q2, .tmp u]) (a : Act) (w : World) (g : Nat) (q r s t v : Value) (hp : a.tmps.getD p undef = .pointer (some ⟨g, 0, none⟩)) (hg : Blk w g 32 #[q, r, s, t, v]) (hd : a.defers = [])
    {Q : Ending → World → Prop} (hQ : Q (.returned (.tuple #[.agg #[q, r, s, t, v], a.tmps.getD q2 undef, a.tmps.getD u undef])) w) : bodyPost Tryd.prog fn Q .ret a w := by
  obtain ⟨⟨fs, hu⟩, hi⟩ := edit_facts
  refine bodyPost_ret (v := .tuple #[.agg #[q, r, s, t, v], a.tmps.getD q2 undef, a.tmps.getD u undef]) ?_ hd hQ
  have hp' : a.tmps[p]?.getD undef = .pointer (some ⟨g, 0, none⟩) := by simpa using hp
  rw [cell_tmp2O h]
  simp [hp', asAddr, run_loadVar_row w g 32 32 #[q, r, s, t, v] (0, 0) _ hg hu rfl hi]
def edit0 : EdP := ⟨0, [], [], [], []⟩
theorem grow_new (w : World) (T : TypeId) (cs : Array Value) : Grow (w.alloc (.cells cs T)) (fun w' => Blk w' w.heap.size T cs) := fun _ hb => (Blk.new w T cs).below hb (by simp)
theorem OkT.txt2 {S : List UInt8} {l : List RunP} {n : Nat} (h : OkT ((S, l), n)) {w : World} {A : Option Addr} (hr : Row w w.heap.size A (flatR l)) : Txu w A S l := h.txt hr
end Go.Proofs.YtgmeamefbfgbgaaDoor

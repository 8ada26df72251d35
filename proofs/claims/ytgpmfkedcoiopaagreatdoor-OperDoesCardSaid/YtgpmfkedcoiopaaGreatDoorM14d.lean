/-
  Merged: OpEdit, OpEdiD, OpEdiP, OpBackM, OpHide, OpHidD, OpTogT, OpThTo, OpInsT, OpThSh.
-/
import Derived.Test.YtgpmfkedcoiopaaGreatDoorM14c
import Derived.Test.YtgpmfkedcoiopaaGreatDoorM12p
import Derived.Test.YtgpmfkedcoiopaaGreatDoorM06r
/-
  What operators' edits are, as plain facts: each can be made; one is within the text behind it: layer 14.
-/
namespace Go.Proofs.YtgpmfkedcoiopaaGreatDoor
open Go.RowKit

/-- an edit that can be made of a text, with a place in the text behind it -/
def EditOk (S : List UInt8) (l : List RunP) (E : EdP) (z : Int) : Prop := ∃ U q, applyE S l E.a E.S E.l E.X E.m = ((U, q), 0) ∧ 0 ≤ z ∧ z ≤ (U.length : Int)
theorem splice_good {S X : List UInt8} {l m : List RunP} {f t : Int} (h : (spliceT S l f t X m).2 = 0) : goodT (spliceT S l f t X m).1.1 (spliceT S l f t X m).1.2 = true := by
  obtain ⟨h1, h2, h3⟩ := spliceT_zero h
  have h4 := withinT_of h1
  have g1 := goodT_size h4.1
  have g2 := goodT_size h2
  unfold spliceT
  rw [if_pos ⟨h1, h2⟩, if_pos h3]
  have hlen : ((bytesOf l).take f.toNat ++ bytesOf m ++ (bytesOf l).drop t.toNat).length = (S.take f.toNat ++ X ++ S.drop t.toNat).length := by
    simp only [List.length_append, List.length_take, List.length_drop]
    omega
  have hle : (S.take f.toNat ++ X ++ S.drop t.toNat).length ≤ 4096 := by
    simp only [List.length_append, List.length_take, List.length_drop]
    omega
  rw [goodT_iff]
  show goodB (pack _) = true ∧ (bytesOf (pack _)).length = _
  rw [bytesOf_pack]
  exact ⟨goodB_pack (by rw [hlen]; exact hle), hlen⟩
theorem turned_ok {S : List UInt8} {l : List RunP} {y : Nat} {f e : Int} {X : List UInt8} {m : List RunP} {b : Bool} (h : (turnedM S l y f e X m b).2 = 0) :
    b = true ∧ (turnedM S l y f e X m b).1.1.a = f ∧ withinT S l f e = true ∧ goodT X m = true ∧ (spliceT S l f e X m).2 = 0 ∧ (turnedM S l y f e X m b).1.1.X = X ∧ (turnedM S l y f e X m b).1.1.m = m ∧ cutOf S l f e = (((turnedM S l y f e X m b).1.1.S, (turnedM S l y f e X m b).1.1.l), 0) ∧
    applyE S l (turnedM S l y f e X m b).1.1.a (turnedM S l y f e X m b).1.1.S (turnedM S l y f e X m b).1.1.l (turnedM S l y f e X m b).1.1.X (turnedM S l y f e X m b).1.1.m = spliceT S l f e X m ∧
    (turnedM S l y f e X m b).1.2 = (viewOf (spliceT S l f e X m).1.1 (spliceT S l f e X m).1.2 y).1 ∧ (turnedM S l y f e X m b).1.2.length = (spliceT S l f e X m).1.1.length := by
  unfold turnedM at h ⊢
  cases b with
  | false => rw [if_pos rfl] at h; exact absurd h (by decide)
  | true =>
    rw [if_neg (by decide)] at h ⊢
    by_cases h0 : (ofE S l f e X m).2 = 0
    · rw [if_pos h0] at h ⊢
      rcases hE : (ofE S l f e X m).1 with ⟨a, U, q, V, r⟩
      have hof : ofE S l f e X m = (⟨a, U, q, V, r⟩, 0) := Prod.ext hE h0
      obtain ⟨rfl, rfl, rfl, hc, ha, hs⟩ := of_apply hof
      obtain ⟨w1, w2, _⟩ := spliceT_zero hs
      refine ⟨rfl, rfl, w1, w2, hs, rfl, rfl, hc, ha, rfl, ?_⟩
      have hg := splice_good hs
      show (viewOf _ _ y).1.length = _
      unfold viewOf
      rw [if_pos hg]
      exact viewTo_len (goodT_size hg).2.2
    · rw [if_neg h0] at h
      exact absurd h h0
end Go.Proofs.YtgpmfkedcoiopaaGreatDoor

/-
  The edits of Do can be made, as plain facts: layer 14.
-/
namespace Go.Proofs.YtgpmfkedcoiopaaGreatDoor
open Go.RowKit

theorem goodT_nil : goodT [] [] = true := by decide
theorem within_nat {S : List UInt8} {l : List RunP} (hg : goodT S l = true) {f e : Nat} (hfe : f ≤ e) (he : e ≤ S.length) : withinT S l (f : Int) (e : Int) = true := (withinT_iff S l _ _).2 ⟨hg, by omega, by omega, by omega⟩
theorem turned_del {S : List UInt8} {l : List RunP} (hg : goodT S l = true) {f e : Nat} (hfe : f ≤ e) (he : e ≤ S.length) (y : Nat) : (turnedM S l y (f : Int) (e : Int) [] [] true).2 = 0 := by
  have hw := within_nat hg hfe he
  have hs := (goodT_size hg).1
  have hc : (cutOf S l (f : Int) (e : Int)).2 = 0 := by unfold cutOf; rw [if_pos hw]
  have hp : (spliceT S l (f : Int) (e : Int) [] []).2 = 0 := by
    unfold spliceT
    rw [if_pos ⟨hw, goodT_nil⟩, if_pos (by simp; omega)]
  unfold turnedM
  rw [if_neg (by decide)]
  have ho : (ofE S l (f : Int) (e : Int) [] []).2 = 0 := by unfold ofE; rw [if_pos hc, if_pos hp]
  rw [if_pos ho]
/-- the bytes that go with whole lines -/
theorem whole_in {V : List UInt8} {i j : Nat} (hij : i ≤ j) (hj : j < countL V) : (wholeL V i j).1.1 ≤ (wholeL V i j).1.2 ∧ (wholeL V i j).1.2 ≤ V.length := by
  rw [wholeL_good ⟨by omega, by omega, by omega⟩]
  split
  · next h =>
    have h2 : j + 1 < countL V := by omega
    rw [show ((j : Int) + 1) = ((j + 1 : Nat) : Int) by omega, boundsL_nat (show i < countL V by omega), boundsL_nat h2]
    exact ⟨beg_mono (by omega) h2, beg_le h2⟩
  · split
    · have := beg_le (show i < countL V by omega)
      rw [boundsL_nat (show i < countL V by omega)]
      dsimp only
      omega
    · exact ⟨Nat.zero_le _, Nat.le_refl _⟩
end Go.Proofs.YtgpmfkedcoiopaaGreatDoor

/-
  The edits of Swap and Put can be made, as plain facts: layer 14.
-/
namespace Go.Proofs.YtgpmfkedcoiopaaGreatDoor
open Go.RowKit

end Go.Proofs.YtgpmfkedcoiopaaGreatDoor

/-
  What d took is there again when it is put back, as plain facts: layer 14.
-/
namespace Go.Proofs.YtgpmfkedcoiopaaGreatDoor
open Go.RowKit

end Go.Proofs.YtgpmfkedcoiopaaGreatDoor

/-
  What operators do to texts that are alike for a level, as plain facts: layer 14.
-/
namespace Go.Proofs.YtgpmfkedcoiopaaGreatDoor
open Go.RowKit

/-- two texts under the very same runs: both good, or neither; if they are, alike for a level -/
def Alk (y : Nat) (x x' : TP) : Prop := x.2 = x'.2 ∧ goodT x.1 x.2 = goodT x'.1 x'.2 ∧ (goodT x.1 x.2 = true → LikeT x.1 x'.1 (bytesOf x.2) y)
inductive AlkL (y : Nat) : List TP → List TP → Prop
  | nil : AlkL y [] []
  | cons {x x' : TP} {L L' : List TP} : Alk y x x' → AlkL y L L' → AlkL y (x :: L) (x' :: L')
section
variable {y : Nat} {L L' M M' : List TP} {x x' : TP}
theorem Alk.refl (x : TP) : Alk y x x := ⟨rfl, rfl, fun hg => ⟨(goodT_size hg).2.2, (goodT_size hg).2.2, rfl⟩⟩
theorem Alk.low (h : Alk y x x') (hg : goodT x.1 x.2 = true) : lowT x.1 x'.1 x.2 x'.2 y = true := by
  obtain ⟨h1, h2, h3⟩ := h
  unfold lowT
  rw [decide_eq_true_iff, ← h1]
  exact ⟨hg, by rw [h1, ← h2]; exact hg, rfl, (h3 hg).same⟩
theorem AlkL.one (h : Alk y x x') : AlkL y [x] [x'] := .cons h .nil
theorem AlkL.append (h : AlkL y L L') (k : AlkL y M M') : AlkL y (L ++ M) (L' ++ M') := by
  induction h with
  | nil => exact k
  | cons hx _ ih => exact .cons hx ih
theorem AlkL.many (h : Alk y x x') : ∀ n, AlkL y (List.replicate n x) (List.replicate n x')
  | 0 => .nil
  | n + 1 => .cons h (AlkL.many h n)
theorem AlkL.good (h : AlkL y L L') : goodC L = goodC L' := by
  induction h with
  | nil => rfl
  | cons hx _ ih =>
    unfold goodC at ih ⊢
    rw [List.all_cons, List.all_cons, ih, hx.2.1]
theorem LikeT.len {S T : List UInt8} {bs : List Nat} (h : LikeT S T bs y) : S.length = T.length := by rw [← h.hS, h.hT]
end
/-- a good text, and another one that is alike for a level -/
structure Twin (S T : List UInt8) (l : List RunP) (y : Nat) : Prop where
  g : goodT S l = true
  gT : goodT T l = true
  k : LikeT S T (bytesOf l) y
section
variable {S T : List UInt8} {l : List RunP} {y : Nat}
theorem Twin.view (h : Twin S T l y) : viewOf S l y = viewOf T l y := by
  unfold viewOf
  rw [if_pos h.g, if_pos h.gT, h.k.same]
theorem Twin.within (h : Twin S T l y) (f t : Int) : withinT S l f t = withinT T l f t := by
  unfold withinT
  rw [h.g, h.gT, h.k.len]
theorem Twin.cutT (h : Twin S T l y) (f t : Int) : (cutOf S l f t).2 = (cutOf T l f t).2 ∧ Alk y (cutOf S l f t).1 (cutOf T l f t).1 := by
  unfold cutOf
  rw [← h.within]
  by_cases hw : withinT S l f t = true
  · rw [if_pos hw, if_pos hw]
    obtain ⟨_, h0, h1, h2⟩ := withinT_of hw
    have gs := goodT_size h.g
    have hc := cut_len (b := bytesOf l) h0 h1 (by omega)
    have hk := (h.k.drop f.toNat).take (t - f).toNat
    have hlt := h.k.len
    refine ⟨rfl, rfl, ?_, fun _ => ?_⟩
    · show goodT _ _ = goodT _ _
      unfold goodT
      rw [hk.len]
    · show LikeT _ _ (bytesOf (pack (cut (bytesOf l) f t))) y
      rw [bytesOf_pack]
      exact hk
  · rw [if_neg hw, if_neg hw]
    exact ⟨rfl, Alk.refl _⟩
theorem cut_good {f t : Int} (h : (cutOf S l f t).2 = 0) : goodT (cutOf S l f t).1.1 (cutOf S l f t).1.2 = true := by
  have hw := cutOf_zero h
  obtain ⟨hg, h0, h1, h2⟩ := withinT_of hw
  have gs := goodT_size hg
  have hc := cut_len (b := bytesOf l) h0 h1 (by omega)
  unfold cutOf
  rw [if_pos hw]
  refine (goodT_iff _ _).2 ⟨goodB_pack (by omega), ?_⟩
  rw [bytesOf_pack]
  show (cut (bytesOf l) f t).length = ((S.drop f.toNat).take (t - f).toNat).length
  rw [List.length_take, List.length_drop]
  omega
/-- texts in place of bytes of alike texts -/
theorem Twin.splice (h : Twin S T l y) {X X' : List UInt8} {m : List RunP} (hX : Alk y (X, m) (X', m)) (f t : Int) : (spliceT S l f t X m).2 = (spliceT T l f t X' m).2 ∧ ((spliceT S l f t X m).2 = 0 → Twin (spliceT S l f t X m).1.1 (spliceT T l f t X' m).1.1 (spliceT S l f t X m).1.2 y) ∧ (spliceT S l f t X m).1.2 = (spliceT T l f t X' m).1.2 := by
  have hgx : goodT X m = goodT X' m := hX.2.1
  have key : (spliceT S l f t X m).2 = (spliceT T l f t X' m).2 ∧ ((spliceT S l f t X m).2 = 0 → LikeT (spliceT S l f t X m).1.1 (spliceT T l f t X' m).1.1 (bytesOf (spliceT S l f t X m).1.2) y) ∧ (spliceT S l f t X m).1.2 = (spliceT T l f t X' m).1.2 := by
    unfold spliceT
    rw [← h.within, ← hgx]
    by_cases hw : withinT S l f t = true ∧ goodT X m = true
    · have hx := hX.2.2 hw.2
      have hxl : X.length = X'.length := hx.len
      rw [if_pos hw, if_pos hw, ← h.k.len, ← hxl]
      by_cases hb : (S.length : Int) - (t - f) + (X.length : Int) ≤ 4096
      · rw [if_pos hb, if_pos hb]
        refine ⟨rfl, fun _ => ?_, rfl⟩
        show LikeT _ _ (bytesOf (pack _)) y
        rw [bytesOf_pack]
        exact ((h.k.take f.toNat).append hx).append (h.k.drop t.toNat)
      · rw [if_neg hb, if_neg hb]
        exact ⟨rfl, fun e => absurd e (by decide), rfl⟩
    · rw [if_neg hw, if_neg hw]
      exact ⟨rfl, fun e => absurd e (by decide), rfl⟩
  obtain ⟨k1, k2, k3⟩ := key
  refine ⟨k1, fun h0 => ⟨splice_good h0, ?_, k2 h0⟩, k3⟩
  have := splice_good (k1 ▸ h0 : (spliceT T l f t X' m).2 = 0)
  rw [k3]
  exact this
end
/-- edits that are alike for a level -/
def LowE (y : Nat) (E E' : EdP) : Prop := E.a = E'.a ∧ lowT E.S E'.S E.l E'.l y = true ∧ lowT E.X E'.X E.m E'.m y = true
theorem low_nil (y : Nat) : lowT [] [] [] [] y = true := by unfold lowT; rw [decide_eq_true_iff]; exact ⟨goodT_nil, goodT_nil, rfl, rfl⟩
theorem LowE.zero (y : Nat) : LowE y edit0 edit0 := ⟨rfl, low_nil y, low_nil y⟩
theorem Twin.turned {S T : List UInt8} {l : List RunP} {y : Nat} (h : Twin S T l y) {X X' : List UInt8} {m : List RunP} (hX : Alk y (X, m) (X', m)) (f e : Int) (b : Bool) :
    (turnedM S l y f e X m b).2 = (turnedM T l y f e X' m b).2 ∧ (turnedM S l y f e X m b).1.2 = (turnedM T l y f e X' m b).1.2 ∧ LowE y (turnedM S l y f e X m b).1.1 (turnedM T l y f e X' m b).1.1 := by
  obtain ⟨s1, s2, s3⟩ := h.splice hX f e
  obtain ⟨c1, c2⟩ := h.cutT f e
  unfold turnedM
  cases b with
  | false => exact ⟨rfl, rfl, LowE.zero y⟩
  | true =>
    rw [if_neg (show ¬ (true = false) by decide), if_neg (show ¬ (true = false) by decide)]
    unfold ofE
    rw [← c1, ← s1]
    by_cases hc : (cutOf S l f e).2 = 0
    · rw [if_pos hc, if_pos hc]
      by_cases hs : (spliceT S l f e X m).2 = 0
      · rw [if_pos hs, if_pos hs]
        dsimp only
        rw [if_pos rfl, if_pos rfl]
        refine ⟨rfl, ?_, rfl, ?_, ?_⟩
        · show (viewOf _ _ y).1 = (viewOf _ _ y).1
          rw [← s3]
          rw [(s2 hs).view]
        · exact c2.low (cut_good hc)
        · exact hX.low (spliceT_zero hs).2.1
      · rw [if_neg hs, if_neg hs]
        dsimp only
        rw [if_neg hs, if_neg hs]
        exact ⟨rfl, rfl, LowE.zero y⟩
    · rw [if_neg hc, if_neg hc]
      dsimp only
      rw [if_neg hc, if_neg hc]
      exact ⟨rfl, rfl, LowE.zero y⟩
end Go.Proofs.YtgpmfkedcoiopaaGreatDoor

/-
  What Do, Swap and Put make of texts that are alike for a level is alike for it, as plain facts: layer 14.
-/
namespace Go.Proofs.YtgpmfkedcoiopaaGreatDoor
open Go.RowKit

def LowO (y : Nat) (o o' : OutP) : Prop := LowE y o.E o'.E ∧ lowT o.RS o'.RS o.rl o'.rl y = true ∧ o.lines = o'.lines ∧ o.wide = o'.wide ∧ o.at_ = o'.at_
theorem LowO.zero (y : Nat) : LowO y out0 out0 := ⟨LowE.zero y, low_nil y, rfl, rfl, rfl⟩
section
variable {S T : List UInt8} {l : List RunP} {y : Nat}
theorem LowO.of {E E' : EdP} {n n' : Nat} (hn : n = n') (hE : LowE y E E') {RS RS' : List UInt8} {rl rl' : List RunP} (hr : lowT RS RS' rl rl' y = true) (b c : Bool) {z z' : Int} (hz : z = z') :
    (if n = 0 then ((⟨E, RS, rl, b, c, z⟩ : OutP), 0) else (out0, n)).2 = (if n' = 0 then ((⟨E', RS', rl', b, c, z'⟩ : OutP), 0) else (out0, n')).2 ∧ LowO y (if n = 0 then ((⟨E, RS, rl, b, c, z⟩ : OutP), 0) else (out0, n)).1 (if n' = 0 then ((⟨E', RS', rl', b, c, z'⟩ : OutP), 0) else (out0, n')).1 := by
  subst hn hz
  split
  · exact ⟨rfl, hE, hr, rfl, rfl, rfl⟩
  · exact ⟨rfl, LowO.zero y⟩
end
end Go.Proofs.YtgpmfkedcoiopaaGreatDoor

/-
  Letters that are turned twice are what they were, as plain facts: layer 14.
-/
namespace Go.Proofs.YtgpmfkedcoiopaaGreatDoor
open Go.RowKit

section
variable {S : List UInt8} {l : List RunP} {y : Nat}
/-- a text with the letters of some bytes turned -/
def togText (S V : List UInt8) (F E : Nat) : List UInt8 := S.take F ++ togL S V F E ++ S.drop E
end
end Go.Proofs.YtgpmfkedcoiopaaGreatDoor

/-
  ~ applied twice, as plain facts: layer 14.
-/
namespace Go.Proofs.YtgpmfkedcoiopaaGreatDoor
open Go.RowKit

end Go.Proofs.YtgpmfkedcoiopaaGreatDoor

/-
  The lines of a text that has a tab ahead of some of its lines, as plain lists: layer 14.
-/
namespace Go.Proofs.YtgpmfkedcoiopaaGreatDoor
open Go.RowKit

/-- where a line ends is told by how many line ends stand ahead -/
theorem end_unique {S : List UInt8} {n x : Nat} (hx : x ≤ S.length) (hc : (S.take x).count 10 = n) (h : x = S.length ∨ S[x]? = some 10) : endL S n = x := by
  rw [← endsTo_count] at hc
  rcases Nat.lt_or_ge x S.length with hl | hl
  · have h2 : S[x]? = some 10 := h.resolve_left (by omega)
    have h3 := endsTo_has (S := S) (k := S.length) hl h2
    rw [hc] at h3
    have hn : n < (endsTo S S.length).length := by
      rcases Nat.lt_or_ge n (endsTo S S.length).length with h' | h'
      · exact h'
      · rw [List.getElem?_eq_none h'] at h3; cases h3
    unfold endL endsL
    rw [List.getD_eq_getElem?_getD, List.getElem?_append_left hn, h3]
    rfl
  · obtain rfl : x = S.length := by omega
    exact ends_last (by unfold countL; omega)
theorem end_count {S : List UInt8} {n : Nat} (h : n < countL S) : (S.take (endL S n)).count 10 = n := by
  rw [← endsTo_count]
  rcases Nat.lt_or_ge (n + 1) (countL S) with h1 | h1
  · exact (ends_inner h1).2.2
  · rw [ends_last (by omega)]
    unfold countL at h h1
    omega
/-- a tab at a place -/
def insT (W : List UInt8) (p : Nat) : List UInt8 := W.take p ++ [9] ++ W.drop p
/-! Lines f to t with a tab ahead of those that have bytes. -/
section
variable {α : Type} (X : List α) (c : α) (bg en : Nat → Nat) (f t : Nat)
/-- where the part that is taken next begins -/
def ekG (k : Nat) : Nat := if f + k ≤ t then bg (f + k) else en t
/-- line number f + k: the tab, and the line -/
def pcG (k : Nat) : List α := (if bg (f + k) < en (f + k) then [c] else []) ++ (X.drop (bg (f + k))).take (ekG bg en f t (k + 1) - bg (f + k))
def shG : Nat → List α
  | 0 => []
  | k + 1 => shG k ++ pcG X c bg en f t k
/-- how many tabs lie ahead of line m -/
def tbG (m : Nat) : Nat → Nat
  | 0 => 0
  | k + 1 => tbG m k + (if bg (f + k) < en (f + k) ∧ f + k < m then 1 else 0)
end
/-- lines as places: each ends behind where it begins, and ahead of the next -/
structure LnsG (bg en : Nat → Nat) (f t L : Nat) : Prop where
  ft : f ≤ t
  be : ∀ n, n ≤ t → bg n ≤ en n
  nx : ∀ n, n < t → en n < bg (n + 1)
  last : en t ≤ L
theorem LnsG.ek {bg en : Nat → Nat} {f t L : Nat} (h : LnsG bg en f t L) {k : Nat} (hk : f + k ≤ t) : ekG bg en f t k = bg (f + k) ∧ bg (f + k) ≤ en (f + k) ∧ en (f + k) ≤ ekG bg en f t (k + 1) ∧ ekG bg en f t (k + 1) ≤ L := by
  have h1 := h.be (f + k) hk
  have key : ∀ d n, n + d = t → bg n ≤ L ∧ en n ≤ L := by
    intro d
    induction d with
    | zero => intro n hn; obtain rfl : n = t := by omega
              have := h.be n (Nat.le_refl _); have := h.last; omega
    | succ d ih =>
      intro n hn
      have h2 := ih (n + 1) (by omega)
      have h3 := h.nx n (by omega)
      have h4 := h.be n (by omega)
      omega
  refine ⟨if_pos hk, h1, ?_, ?_⟩
  · unfold ekG
    by_cases h2 : f + (k + 1) ≤ t
    · rw [if_pos h2]
      have := h.nx (f + k) (by omega)
      exact Nat.le_of_lt this
    · rw [if_neg h2, show f + k = t by omega]
      exact Nat.le_refl _
  · unfold ekG
    by_cases h2 : f + (k + 1) ≤ t
    · rw [if_pos h2]
      exact (key (t - (f + (k + 1))) _ (by omega)).1
    · rw [if_neg h2]
      exact h.last
section
variable {α : Type} {X : List α} {c : α} {bg en : Nat → Nat} {f t : Nat}
/-- all up to line f + k, with the tabs -/
def qG (X : List α) (c : α) (bg en : Nat → Nat) (f t k : Nat) : List α := X.take (bg f) ++ shG X c bg en f t k
def wG (X : List α) (c : α) (bg en : Nat → Nat) (f t k : Nat) : List α := qG X c bg en f t k ++ X.drop (ekG bg en f t k)
/-- the lines, one behind the other -/
def plG (X : List α) (bg en : Nat → Nat) (f t : Nat) : Nat → List α
  | 0 => []
  | k + 1 => plG X bg en f t k ++ (X.drop (bg (f + k))).take (ekG bg en f t (k + 1) - bg (f + k))
end
end Go.Proofs.YtgpmfkedcoiopaaGreatDoor

/-
  < behind >, as plain facts: layer 14.
-/
namespace Go.Proofs.YtgpmfkedcoiopaaGreatDoor
open Go.RowKit

section
variable {α β : Type}
end
/-- what one line gives, whatever the operator -/
theorem shPiece_is {S : List UInt8} {l : List RunP} (hg : goodT S l = true) {V : List UInt8} {y : Nat} {op : Int} {n : Nat} {T : Int} {a b : Nat} (hn : n < countL V)
    (ha : a = if op = 60 ∧ begL V n < endL V n ∧ classA V (begL V n) = 0 then begL V n + 1 else begL V n) (hb : b = if (n : Int) < T then endL V n + 1 else endL V n) (hab : a ≤ b) (hbS : b ≤ S.length) :
    goodC (shPiece S l V y op T n) = true ∧ bytesC (shPiece S l V y op T n) = (if op = 62 ∧ begL V n < endL V n then [9] else []) ++ (S.drop a).take (b - a) ∧
      labsC (shPiece S l V y op T n) = (if op = 62 ∧ begL V n < endL V n then [y] else []) ++ ((bytesOf l).drop a).take (b - a) := by
  have gs := goodT_size hg
  have hw := within_nat hg hab hbS
  have hcut : cutOf S l (a : Int) (b : Int) = (((S.drop a).take (b - a), pack (cut (bytesOf l) (a : Int) (b : Int))), 0) := by
    unfold cutOf
    rw [if_pos hw]
    have e1 : ((a : Int)).toNat = a := by omega
    have e2 : ((b : Int) - (a : Int)).toNat = b - a := by omega
    rw [e1, e2]
  have hcl : cut (bytesOf l) (a : Int) (b : Int) = ((bytesOf l).drop a).take (b - a) := by
    unfold cut
    have e1 : ((a : Int)).toNat = a := by omega
    have e2 : ((b : Int) - (a : Int)).toNat = b - a := by omega
    rw [e1, e2]
  have hgc : goodT ((S.drop a).take (b - a)) (pack (cut (bytesOf l) (a : Int) (b : Int))) = true := by
    have h0 : (cutOf S l (a : Int) (b : Int)).2 = 0 := by rw [hcut]
    have := cut_good h0
    rwa [hcut] at this
  have hm : (makeOf [9] y).1 = ([9], pack (List.replicate 1 y)) := by unfold makeOf; rw [if_pos (by decide)]; rfl
  have hgm : goodT [9] (pack (List.replicate 1 y)) = true := by
    refine (goodT_iff _ _).2 ⟨goodB_pack (by simp), ?_⟩
    rw [bytesOf_pack]; rfl
  have hp : shPiece S l V y op T n = (if op = 62 ∧ begL V n < endL V n then [([9], pack (List.replicate 1 y))] else []) ++ [((S.drop a).take (b - a), pack (cut (bytesOf l) (a : Int) (b : Int)))] := by
    unfold shPiece
    dsimp only
    rw [boundsL_nat hn]
    dsimp only
    rw [← ha, ← hb, hcut, hm]
  rw [hp]
  unfold goodC bytesC labsC
  by_cases h : op = 62 ∧ begL V n < endL V n
  · rw [if_pos h, if_pos h, if_pos h]
    have hgm' : goodT [9] (pack [y]) = true := hgm
    refine ⟨by simp [hgc, hgm'], by simp, ?_⟩
    simp only [List.cons_append, List.nil_append, List.flatMap_cons, List.flatMap_nil, List.append_nil, bytesOf_pack, hcl]
    rfl
  · rw [if_neg h, if_neg h, if_neg h]
    refine ⟨by simp [hgc], by simp, ?_⟩
    simp only [List.nil_append, List.flatMap_cons, List.flatMap_nil, List.append_nil, bytesOf_pack, hcl]
/-- the edit of > and < -/
def tmS (S : List UInt8) (l : List RunP) (V : List UInt8) (y : Nat) (op : Int) (F T : Nat) : (EdP × List UInt8) × Nat :=
  turnedM S l y (begL V F : Nat) (endL V T : Nat) ((pileM (shList S l V y op F T (T + 1 - F))).getD ([], [])).1 ((pileM (shList S l V y op F T (T + 1 - F))).getD ([], [])).2 (pileM (shList S l V y op F T (T + 1 - F))).isSome
end Go.Proofs.YtgpmfkedcoiopaaGreatDoor

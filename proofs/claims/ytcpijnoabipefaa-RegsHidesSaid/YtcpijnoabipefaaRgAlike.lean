/-
  Registers that are alike for a level, as plain lists: layer 9.
-/
import Derived.Test.YtcpijnoabipefaaRgNames
import Derived.Test.YtcpijnoabipefaaM04s
namespace Go.Proofs.Ytcpijnoabipefaa
open Go.RowKit

/-- registers alike for a level -/
structure AlikeG (y : Nat) (r s : RegP) : Prop where
  full : r.full = s.full
  lines : r.lines = s.lines
  l : r.l = s.l
  like : LikeT r.S s.S (bytesOf r.l) y
def AlikeR (y : Nat) (R R' : List RegP) : Prop := ∀ i, AlikeG y (atR R i) (atR R' i)
theorem alikeG_self {y : Nat} {r : RegP} (h : goodT r.S r.l = true) : AlikeG y r r := ⟨rfl, rfl, rfl, (goodT_size h).2.2, (goodT_size h).2.2, rfl⟩
theorem alikeR_new (y : Nat) : AlikeR y newR newR := fun i => by
  refine alikeG_self ?_
  unfold atR newR
  rw [List.getElem?_replicate]
  split <;> rfl
theorem AlikeR.put {y : Nat} {R R' : List RegP} (h : AlikeR y R R') (hR : R.length = 38) (hR' : R'.length = 38) {i j : Nat} (hi : i < 38) (hj : j < 38) {x x' : RegP} (hx : AlikeG y x x') : AlikeR y (put2 R i j x) (put2 R' i j x') := fun k => by
  rw [atR_put2 (by omega) (by omega), atR_put2 (by omega) (by omega)]
  split
  · exact hx
  · split
    · exact hx
    · exact h k
theorem atR_shift_not {R : List RegP} (h : R.length = 38) {i : Nat} (h1 : ¬ (28 ≤ i ∧ i ≤ 35)) : atR (shiftZ R) i = atR R i := by
  unfold atR shiftZ
  congr 1
  by_cases h2 : i < 28
  · rw [List.getElem?_append_left (by simp; omega), List.getElem?_append_left (by simp; omega), List.getElem?_take, if_pos h2]
  · rw [List.getElem?_append_right (by simp; omega), List.getElem?_drop]
    congr 1
    simp
    omega
theorem AlikeR.shift {y : Nat} {R R' : List RegP} (h : AlikeR y R R') (hR : R.length = 38) (hR' : R'.length = 38) : AlikeR y (shiftZ R) (shiftZ R') := fun i => by
  by_cases hi : 28 ≤ i ∧ i ≤ 35
  · rw [atR_shift hR hi.1 hi.2, atR_shift hR' hi.1 hi.2]; exact h _
  · rw [atR_shift_not hR hi, atR_shift_not hR' hi]; exact h _
theorem catT_plain {S X : List UInt8} {l m : List RunP} (h : goodT S l = true) (h' : goodT X m = true) : catT S l X m = if S.length + X.length ≤ 4096 then ((S ++ X, pack (bytesOf l ++ bytesOf m)), 0) else (([], []), 3) := by
  obtain ⟨g1, _, g3⟩ := goodT_size h
  have hw : withinT S l (S.length : Nat) (S.length : Nat) = true := by
    unfold withinT
    simp [h]
  unfold catT
  rw [if_pos ⟨h, h'⟩]
  unfold spliceT
  rw [if_pos ⟨hw, h'⟩]
  by_cases hb : S.length + X.length ≤ 4096
  · rw [if_pos (by omega), if_pos hb, Int.toNat_natCast, List.take_length, List.drop_length, List.append_nil, ← g3, List.take_length, List.drop_length, List.append_nil]
  · rw [if_neg (by omega), if_neg hb]
/-- texts appended to registers that are alike -/
theorem cat_alike {y : Nat} {S T X Y : List UInt8} {l m : List RunP} (g1 : goodT S l = true) (g2 : goodT T l = true) (g3 : goodT X m = true) (g4 : goodT Y m = true) (h : LikeT S T (bytesOf l) y) (k : LikeT X Y (bytesOf m) y) :
    (catT S l X m).2 = (catT T l Y m).2 ∧ (catT S l X m).1.2 = (catT T l Y m).1.2 ∧ LikeT (catT S l X m).1.1 (catT T l Y m).1.1 (bytesOf (catT S l X m).1.2) y := by
  rw [catT_plain g1 g3, catT_plain g2 g4]
  have e1 := h.hS.symm.trans h.hT
  have e2 := k.hS.symm.trans k.hT
  rw [← e1, ← e2]
  by_cases hb : S.length + X.length ≤ 4096
  · rw [if_pos hb, if_pos hb]
    refine ⟨rfl, rfl, ?_⟩
    dsimp only
    rw [bytesOf_pack]
    exact h.append k
  · rw [if_neg hb, if_neg hb]
    exact ⟨rfl, rfl, rfl, rfl, rfl⟩
theorem AlikeR.does {y : Nat} {R R' : List RegP} (h : AlikeR y R R') (hR : OkRs R) (hR' : OkRs R') (n : Int) {S S' : List UInt8} {l : List RunP} (hgg : goodT S' l = goodT S l) (hk : goodT S l = true → LikeT S S' (bytesOf l) y) (b cut wide : Bool) :
    (doesR R n S l b cut wide).2 = (doesR R' n S' l b cut wide).2 ∧ AlikeR y (doesR R n S l b cut wide).1 (doesR R' n S' l b cut wide).1 := by
  have hc : checkR n S' l = checkR n S l := by unfold checkR; rw [hgg]
  have hx : ∀ hg : goodT S l = true, AlikeG y ⟨true, S, l, b⟩ ⟨true, S', l, b⟩ := fun hg => ⟨rfl, rfl, rfl, hk hg⟩
  have hL : ∀ (_hg : goodT S l = true) (_hn : letN n = true), (letterR R n S l b).2 = (letterR R' n S' l b).2 ∧ AlikeR y (letterR R n S l b).1 (letterR R' n S' l b).1 := fun hg hn => by
    have hp := plN_let hn
    unfold letterR
    by_cases hcap : capN n = true
    · rw [if_pos hcap, if_pos hcap]
      have ha := h (plN n).toNat
      have o1 := atR_ok hR (i := (plN n).toNat) (by omega)
      have o2 := atR_ok hR' (i := (plN n).toNat) (by omega)
      generalize atR R (plN n).toNat = r at *
      generalize atR R' (plN n).toNat = r' at *
      obtain ⟨c1, c2, c3⟩ := cat_alike (y := y) o1.1 (by rw [ha.l]; exact o2.1) hg (by rw [hgg]; exact hg) ha.like (hk hg)
      rw [← ha.l, ← c1]
      by_cases h0 : (catT r.S r.l S l).2 = 0
      · rw [if_pos h0, if_pos h0]
        exact ⟨rfl, h.put hR.len hR'.len (by omega) (by omega) ⟨rfl, by dsimp only; rw [ha.lines], c2, c3⟩⟩
      · rw [if_neg h0, if_neg h0]
        exact ⟨rfl, h⟩
    · rw [if_neg hcap, if_neg hcap]
      exact ⟨rfl, h.put hR.len hR'.len (by omega) (by omega) (hx hg)⟩
  have hY : (yankR R n S l b).2 = (yankR R' n S' l b).2 ∧ AlikeR y (yankR R n S l b).1 (yankR R' n S' l b).1 := by
    unfold yankR
    rw [hc]
    by_cases h0 : checkR n S l = 0
    · have hg := (checkR_good h0).2
      rw [if_pos h0, if_pos h0]
      by_cases hn : letN n = true
      · rw [if_pos hn, if_pos hn]; exact hL hg hn
      · rw [if_neg hn, if_neg hn]
        by_cases h9 : n = 95
        · rw [if_pos h9, if_pos h9]; exact ⟨rfl, h⟩
        · rw [if_neg h9, if_neg h9]; exact ⟨rfl, h.put hR.len hR'.len (by omega) (by omega) (hx hg)⟩
    · rw [if_neg h0, if_neg h0]; exact ⟨rfl, h⟩
  unfold doesR
  by_cases hcut : cut = true
  · rw [if_pos hcut, if_pos hcut]
    unfold deleteR
    by_cases hu : unN n = false
    · rw [if_pos hu, if_pos hu]; exact hY
    · rw [if_neg hu, if_neg hu, hc]
      by_cases h0 : checkR n S l = 0
      · have hg := (checkR_good h0).2
        rw [if_pos h0, if_pos h0]
        by_cases hw : wide = false ∧ b = false
        · rw [if_pos hw, if_pos hw]; exact ⟨rfl, h.put hR.len hR'.len (by omega) (by omega) (hx hg)⟩
        · rw [if_neg hw, if_neg hw]; exact ⟨rfl, (h.shift hR.len hR'.len).put (shiftZ_len hR.len) (shiftZ_len hR'.len) (by omega) (by omega) (hx hg)⟩
      · rw [if_neg h0, if_neg h0]; exact ⟨rfl, h⟩
  · rw [if_neg hcut, if_neg hcut]; exact hY
theorem other_like {S : List UInt8} {l : List RunP} {y : Nat} {O : List UInt8} : goodT (otherOf S l y O) l = goodT S l ∧ (goodT S l = true → LikeT S (otherOf S l y O) (bytesOf l) y) := ⟨otherOf_good .., fun h => otherOf_like h y O⟩
/-- what registers that are alike answer -/
theorem AlikeR.get {y : Nat} {R R' : List RegP} (h : AlikeR y R R') (hR : OkRs R) (hR' : OkRs R') (n : Int) :
    (getR R n).2 = (getR R' n).2 ∧ (getR R n).1.lines = (getR R' n).1.lines ∧ lowT (getR R n).1.S (getR R' n).1.S (getR R n).1.l (getR R' n).1.l y = true := by
  have low : ∀ r s : RegP, AlikeG y r s → r.ok → s.ok → lowT r.S s.S r.l s.l y = true := fun r s ha hr hs => by
    unfold lowT
    rw [decide_eq_true_iff, ← ha.l]
    exact ⟨hr.1, by rw [ha.l]; exact hs.1, rfl, ha.like.same⟩
  have hz := low zeroR zeroR (alikeG_self rfl) zeroR_ok zeroR_ok
  unfold getR
  by_cases hp : plN n = -1
  · rw [if_pos hp, if_pos hp]; exact ⟨rfl, rfl, hz⟩
  · have hr := plN_range n
    have ha := h (plN n).toNat
    rw [if_neg hp, if_neg hp, ← ha.full]
    by_cases hf : (atR R (plN n).toNat).full = false
    · rw [if_pos hf, if_pos hf]; exact ⟨rfl, rfl, hz⟩
    · rw [if_neg hf, if_neg hf]; exact ⟨rfl, ha.lines, low _ _ ha (atR_ok hR (by omega)) (atR_ok hR' (by omega))⟩
end Go.Proofs.Ytcpijnoabipefaa

/-
  Merged: StrSays, StrAlive, StrTwice, StrUp, StrLike, StrAlike.
-/
import Derived.Test.YtgmeamefbfgbgaaDoorM04
import Derived.Test.YtgmeamefbfgbgaaDoorM03
/-
  What package strip answers (to be proved of the landed one), and what follows for the statements: layer 4.
-/
namespace Go.Proofs.YtgmeamefbfgbgaaDoor
set_option maxRecDepth 100000
open Go.RowKit

/-- a text and a number are the answer; whose row it is is not said -/
def Shows (w : World) (r : (List UInt8 × List RunP) × Nat) (e : Ending) (w' : World) : Prop :=
  ∃ A c, e = .returned (.tuple #[.agg #[.string ⟨r.1.1.toArray⟩, .slice A r.1.2.length c], .int .i64 (r.2 : Nat)]) ∧ Row w' w'.heap.size A (flatR r.1.2) ∧ Below w.heap.size w w'
theorem GivesT.shows {w w' : World} {r : (List UInt8 × List RunP) × Nat} {e : Ending} (h : GivesT w r e w') : Shows w r e w' := by
  obtain ⟨A, c, he, hown, hb⟩ := h
  exact ⟨A, c, he, Row.of_own hown, hb⟩

/-- an answer that can be asked again -/
def OkT (r : (List UInt8 × List RunP) × Nat) : Prop := r.1.1.length ≤ 4096 ∧ Fits r.1.2 ∧ r.1.2.length ≤ maxLen
theorem okT_nil (n : Nat) : OkT (([], []), n) := ⟨by simp, fun r hr => by simp at hr, by simp⟩
theorem okT_pack {S : List UInt8} {b : List Nat} {n : Nat} (h : S.length ≤ 4096) (hb : ∀ x ∈ b, x < 18446744073709551616) (hl : b.length ≤ 4096) : OkT ((S, pack b), n) := ⟨h, fits_pack hb hl, pack_small hl⟩
theorem OkT.txt {r : (List UInt8 × List RunP) × Nat} (h : OkT r) {w : World} {B : Nat} {A : Option Addr} (hr : Row w B A (flatR r.1.2)) : Txt w B A r.1.1 r.1.2 := ⟨by have := h.1; unfold maxLen; omega, h.2.1, h.2.2, hr⟩
theorem okT_make (S : List UInt8) (x : Nat) (hx : x < 18446744073709551616) : OkT (makeOf S x) := by
  unfold makeOf
  split
  · next h => exact okT_pack h (fun y hy => by rw [(List.mem_replicate.1 hy).2]; exact hx) (by rw [List.length_replicate]; exact h)
  · exact okT_nil _
theorem okT_cut {S : List UInt8} {l : List RunP} (hf : Fits l) (f t : Int) : OkT (cutOf S l f t) := by
  unfold cutOf
  split
  · next h =>
    obtain ⟨hg, h0, h1, h2⟩ := withinT_of h
    obtain ⟨g1, g2, g3⟩ := goodT_size hg
    have := cut_len (b := bytesOf l) h0 h1 (by omega)
    exact okT_pack (by rw [List.length_take, List.length_drop]; omega) (cut_mem (bytesOf_mem hf)) (by omega)
  · exact okT_nil _
theorem okT_raise {S : List UInt8} {l : List RunP} (hf : Fits l) {y : Nat} (hy : y < 18446744073709551616) : OkT (raiseT S l y) := by
  unfold raiseT
  split
  · next h =>
    obtain ⟨g1, g2, g3⟩ := goodT_size h
    refine okT_pack g1 (fun x hx => ?_) (by rw [List.length_map]; omega)
    obtain ⟨z, hz, rfl⟩ := List.mem_map.1 hx
    exact or_lt (bytesOf_mem hf z hz) hy
  · exact okT_nil _
theorem okT_splice {S X : List UInt8} {l m : List RunP} (hf : Fits l) (hf2 : Fits m) (f t : Int) : OkT (spliceT S l f t X m) := by
  unfold spliceT
  split
  · next h =>
    split
    · next hb =>
      obtain ⟨hg, h0, h1, h2⟩ := withinT_of h.1
      obtain ⟨g1, g2, g3⟩ := goodT_size hg
      obtain ⟨k1, k2, k3⟩ := goodT_size h.2
      have a1 := splice_size (b := bytesOf l) (m := bytesOf m) h0 h1 (by omega)
      refine okT_pack ?_ (mem_append_lt (mem_append_lt (fun x hx => bytesOf_mem hf x (List.mem_of_mem_take hx)) (bytesOf_mem hf2)) (fun x hx => bytesOf_mem hf x (List.mem_of_mem_drop hx))) (by omega)
      rw [List.length_append, List.length_append, List.length_take, List.length_drop]; omega
    · exact okT_nil _
  · exact okT_nil _
theorem okT_cat {S X : List UInt8} {l m : List RunP} (hf : Fits l) (hf2 : Fits m) : OkT (catT S l X m) := by
  unfold catT
  split
  · exact okT_splice hf hf2 _ _
  · exact okT_nil _

/-- a text's variable, just made -/
theorem new_var (w : World) (s v : Value) : Blk (w.alloc (.cells #[s, v] 24)) w.heap.size 24 #[s, v] ∧ (w.alloc (.cells #[s, v] 24)).heap.size = w.heap.size + 1 := ⟨Blk.new _ _ _, by simp⟩

end Go.Proofs.YtgmeamefbfgbgaaDoor

/-
  The answers that the document fixes: layer 4.
-/
namespace Go.Proofs.YtgmeamefbfgbgaaDoor
set_option maxRecDepth 100000
open Go.RowKit

theorem alive_strip : makeOf [97, 98] 1 = (([97, 98], [(1, 2)]), 0) ∧ makeOf [99] 2 = (([99], [(2, 1)]), 0) ∧ catT [97, 98] [(1, 2)] [99] [(2, 1)] = (([97, 98, 99], [(1, 2), (2, 1)]), 0) ∧
    viewOf [97, 98, 99] [(1, 2), (2, 1)] 1 = ([97, 98, 35], 0) ∧ goodT [97, 98, 99] [(1, 2), (2, 1)] = true ∧ (if goodT [97, 98, 99] [(1, 2), (2, 1)] = true then joinAllN (bytesOf [(1, 2), (2, 1)]) else 0) = 3 := by
  refine ⟨by decide +kernel, by decide +kernel, by decide +kernel, by decide +kernel, by decide +kernel, by decide +kernel⟩
theorem txt_small {w : World} {A : Option Addr} {S : List UInt8} {l : List RunP} (hr : Row w w.heap.size A (flatR l)) (hS : S.length ≤ 4096) (hl : l.length ≤ 4096) (hf : Fits l) : Txt w w.heap.size A S l := ⟨by unfold maxLen; omega, hf, by unfold maxLen; omega, hr⟩

end Go.Proofs.YtgmeamefbfgbgaaDoor

/-
  A text that is cut and put together again: layer 4, as plain lists.
-/
namespace Go.Proofs.YtgmeamefbfgbgaaDoor
set_option maxRecDepth 100000
open Go.RowKit

theorem withinT_iff (S : List UInt8) (l : List RunP) (f t : Int) : withinT S l f t = true ↔ goodT S l = true ∧ 0 ≤ f ∧ f ≤ t ∧ t ≤ (S.length : Int) := by
  unfold withinT; simp
theorem partsT_ok {S : List UInt8} {l : List RunP} {p : Int} (hg : goodT S l = true) (h0 : 0 ≤ p) (h1 : p ≤ (S.length : Int)) :
    ∃ (U V : List UInt8) (P Q : List RunP), cutOf S l 0 p = ((U, P), 0) ∧ cutOf S l p (S.length : Nat) = ((V, Q), 0) ∧ catT U P V Q = ((S, l), 0) ∧ (U.length : Int) = p := by
  obtain ⟨g1, g2, g3⟩ := goodT_size hg
  have hgl := ((goodT_iff S l).1 hg).1
  have l1 : ((bytesOf l).take p.toNat).length ≤ 4096 := by rw [List.length_take]; omega
  have l2 : ((bytesOf l).drop p.toNat).length ≤ 4096 := by rw [List.length_drop]; omega
  have e1 : cutOf S l 0 p = ((S.take p.toNat, pack ((bytesOf l).take p.toNat)), 0) := by
    unfold cutOf
    rw [if_pos ((withinT_iff _ _ _ _).2 ⟨hg, Int.le_refl _, h0, h1⟩), cut_front]
    simp
  have e2 : cutOf S l p (S.length : Nat) = ((S.drop p.toNat, pack ((bytesOf l).drop p.toNat)), 0) := by
    unfold cutOf
    rw [if_pos ((withinT_iff _ _ _ _).2 ⟨hg, h0, h1, Int.le_refl _⟩), ← g3, cut_back h0]
    congr 2
    exact List.take_of_length_le (by rw [List.length_drop]; omega)
  have k1 : goodT (S.take p.toNat) (pack ((bytesOf l).take p.toNat)) = true := (goodT_iff _ _).2 ⟨goodB_pack l1, by rw [bytesOf_pack, List.length_take, List.length_take, g3]⟩
  have k2 : goodT (S.drop p.toNat) (pack ((bytesOf l).drop p.toNat)) = true := (goodT_iff _ _).2 ⟨goodB_pack l2, by rw [bytesOf_pack, List.length_drop, List.length_drop, g3]⟩
  refine ⟨_, _, _, _, e1, e2, ?_, by rw [List.length_take]; omega⟩
  have hl : (S.take p.toNat).length = p.toNat := by rw [List.length_take]; omega
  have hlb : ((bytesOf l).take p.toNat).length = p.toNat := by rw [List.length_take]; omega
  unfold catT
  rw [if_pos ⟨k1, k2⟩, spliceT_ok ((withinT_iff _ _ _ _).2 ⟨k1, by omega, Int.le_refl _, Int.le_refl _⟩) k2 (by rw [List.length_drop, hl]; omega), bytesOf_pack, bytesOf_pack, Int.toNat_natCast, hl]
  rw [List.take_of_length_le (by omega : (S.take p.toNat).length ≤ p.toNat), List.drop_of_length_le (by omega : (S.take p.toNat).length ≤ p.toNat), List.take_of_length_le (by omega : ((bytesOf l).take p.toNat).length ≤ p.toNat), List.drop_of_length_le (by omega : ((bytesOf l).take p.toNat).length ≤ p.toNat)]
  rw [List.append_nil, List.append_nil, List.take_append_drop, List.take_append_drop, goodB_eq hgl]
end Go.Proofs.YtgmeamefbfgbgaaDoor

/-
  What a lower level sees, a higher one sees too: layer 4, as plain lists.
-/
namespace Go.Proofs.YtgmeamefbfgbgaaDoor
set_option maxRecDepth 100000
open Go.RowKit

theorem subB_low {b x y : Nat} (h : subB b (x &&& y) = true) : subB b y = true := by
  rw [subB_iff] at h ⊢
  intro i hi
  have := h i hi
  rw [Nat.testBit_and, Bool.and_eq_true] at this
  exact this.2
theorem viewTo_get {S : List UInt8} {bs : List Nat} {y k : Nat} (h : bs.length = S.length) (hk : k < S.length) :
    (viewTo S bs y)[k]'(by rw [viewTo_len h]; exact hk) = if subB (bs[k]'(by omega)) y = true then S[k] else 35 := by
  unfold viewTo
  simp
/-- what two views show at a place -/
theorem views_ok {S : List UInt8} {bs : List Nat} {x y k : Nat} (h : bs.length = S.length) (hk : k < S.length) :
    ((viewTo S bs (x &&& y))[k]'(by rw [viewTo_len h]; exact hk) = 35 ∨ (viewTo S bs (x &&& y))[k]'(by rw [viewTo_len h]; exact hk) = (viewTo S bs y)[k]'(by rw [viewTo_len h]; exact hk)) ∧
    ((viewTo S bs y)[k]'(by rw [viewTo_len h]; exact hk) = 35 ∨ (viewTo S bs y)[k]'(by rw [viewTo_len h]; exact hk) = S[k]) := by
  rw [viewTo_get h hk, viewTo_get h hk]
  constructor
  · by_cases hb : subB (bs[k]'(by omega)) (x &&& y) = true
    · rw [if_pos hb, if_pos (subB_low hb)]; exact Or.inr rfl
    · rw [if_neg hb]; exact Or.inl rfl
  · by_cases hb : subB (bs[k]'(by omega)) y = true
    · rw [if_pos hb]; exact Or.inr rfl
    · rw [if_neg hb]; exact Or.inl rfl
/-- alike at a level: alike below it -/
theorem lowT_down {S X : List UInt8} {l m : List RunP} {x y : Nat} (h : lowT S X l m y = true) : lowT S X l m (x &&& y) = true := by
  unfold lowT at h ⊢
  rw [decide_eq_true_iff] at h ⊢
  obtain ⟨h1, h2, h3, h4⟩ := h
  subst h3
  refine ⟨h1, h2, rfl, ?_⟩
  have e1 := (goodT_size h1).2.2
  have e2 := (goodT_size h2).2.2
  apply List.ext_getElem
  · rw [viewTo_len e1, viewTo_len e2, ← e1, e2]
  · intro k hk1 hk2
    rw [viewTo_len e1] at hk1
    rw [viewTo_len e2] at hk2
    rw [viewTo_get e1 hk1, viewTo_get e2 hk2]
    have hv : (viewTo S (bytesOf l) y)[k]'(by rw [viewTo_len e1]; exact hk1) = (viewTo X (bytesOf l) y)[k]'(by rw [viewTo_len e2]; exact hk2) := by
      congr 1
    rw [viewTo_get e1 hk1, viewTo_get e2 hk2] at hv
    by_cases hb : subB ((bytesOf l)[k]'(by omega)) (x &&& y) = true
    · rw [if_pos hb, if_pos hb]
      rw [if_pos (subB_low hb), if_pos (subB_low hb)] at hv
      exact hv
    · rw [if_neg hb, if_neg hb]
end Go.Proofs.YtgmeamefbfgbgaaDoor

/-
  What is hidden stays hidden: cut, catenated, spliced, raised (layer 4, as plain lists).
-/
namespace Go.Proofs.YtgmeamefbfgbgaaDoor
set_option maxRecDepth 100000
open Go.RowKit

/-- two texts under the same labels that show the same at a level -/
structure LikeT (S T : List UInt8) (bs : List Nat) (y : Nat) : Prop where
  hS : bs.length = S.length
  hT : bs.length = T.length
  same : viewTo S bs y = viewTo T bs y
theorem viewTo_take (S : List UInt8) (bs : List Nat) (y n : Nat) : viewTo (S.take n) (bs.take n) y = (viewTo S bs y).take n := by
  unfold viewTo; rw [List.zip, ← List.take_zipWith, List.map_take]
theorem viewTo_drop (S : List UInt8) (bs : List Nat) (y n : Nat) : viewTo (S.drop n) (bs.drop n) y = (viewTo S bs y).drop n := by
  unfold viewTo; rw [List.zip, ← List.drop_zipWith, List.map_drop]
theorem viewTo_append {S X : List UInt8} {bs cs : List Nat} {y : Nat} (h : bs.length = S.length) : viewTo (S ++ X) (bs ++ cs) y = viewTo S bs y ++ viewTo X cs y := by
  unfold viewTo; rw [List.zip_append h.symm, List.map_append]
theorem LikeT.take {S T : List UInt8} {bs : List Nat} {y : Nat} (h : LikeT S T bs y) (n : Nat) : LikeT (S.take n) (T.take n) (bs.take n) y :=
  ⟨by rw [List.length_take, List.length_take, h.hS], by rw [List.length_take, List.length_take, h.hT], by rw [viewTo_take, viewTo_take, h.same]⟩
theorem LikeT.drop {S T : List UInt8} {bs : List Nat} {y : Nat} (h : LikeT S T bs y) (n : Nat) : LikeT (S.drop n) (T.drop n) (bs.drop n) y :=
  ⟨by rw [List.length_drop, List.length_drop, h.hS], by rw [List.length_drop, List.length_drop, h.hT], by rw [viewTo_drop, viewTo_drop, h.same]⟩
theorem LikeT.append {S T X Y : List UInt8} {bs cs : List Nat} {y : Nat} (h : LikeT S T bs y) (k : LikeT X Y cs y) : LikeT (S ++ X) (T ++ Y) (bs ++ cs) y :=
  ⟨by rw [List.length_append, List.length_append, h.hS, k.hS], by rw [List.length_append, List.length_append, h.hT, k.hT], by rw [viewTo_append h.hS, viewTo_append h.hT, h.same, k.same]⟩
theorem subB_or {b x y : Nat} (h : subB (b ||| x) y = true) : subB b y = true := by
  rw [subB_iff] at h ⊢
  intro i hi
  exact h i (by rw [Nat.testBit_or, hi]; rfl)
theorem LikeT.raise {S T : List UInt8} {bs : List Nat} {y : Nat} (h : LikeT S T bs y) (x : Nat) : LikeT S T (bs.map fun b => b ||| x) y := by
  have e1 : (bs.map fun b => b ||| x).length = S.length := by rw [List.length_map, h.hS]
  have e2 : (bs.map fun b => b ||| x).length = T.length := by rw [List.length_map, h.hT]
  refine ⟨e1, e2, ?_⟩
  apply List.ext_getElem
  · rw [viewTo_len e1, viewTo_len e2, ← e1, e2]
  · intro k hk1 hk2
    rw [viewTo_len e1] at hk1
    rw [viewTo_len e2] at hk2
    have hkb : k < bs.length := by rw [h.hS]; exact hk1
    rw [viewTo_get e1 hk1, viewTo_get e2 hk2, List.getElem_map]
    have hv : (viewTo S bs y)[k]'(by rw [viewTo_len h.hS]; exact hk1) = (viewTo T bs y)[k]'(by rw [viewTo_len h.hT]; exact hk2) := by
      congr 1; exact h.same
    rw [viewTo_get h.hS hk1, viewTo_get h.hT hk2] at hv
    by_cases hb : subB (bs[k] ||| x) y = true
    · rw [if_pos hb, if_pos hb]
      rw [if_pos (subB_or hb), if_pos (subB_or hb)] at hv
      exact hv
    · rw [if_neg hb, if_neg hb]
/-- alike texts, packed again -/
theorem LikeT.low {S T : List UInt8} {bs : List Nat} {y : Nat} (h : LikeT S T bs y) (hn : bs.length ≤ 4096) : lowT S T (pack bs) (pack bs) y = true := by
  unfold lowT
  rw [decide_eq_true_iff, bytesOf_pack]
  exact ⟨(goodT_iff _ _).2 ⟨goodB_pack hn, by rw [bytesOf_pack]; exact h.hS⟩, (goodT_iff _ _).2 ⟨goodB_pack hn, by rw [bytesOf_pack]; exact h.hT⟩, rfl, h.same⟩
/-- the answers that two alike texts may have -/
def LikeR (r s : (List UInt8 × List RunP) × Nat) (y : Nat) : Prop := r.2 = s.2 ∧ (r.2 = 0 → lowT r.1.1 s.1.1 r.1.2 s.1.2 y = true)
theorem otherOf_len (S : List UInt8) (l : List RunP) (y : Nat) (O : List UInt8) : (otherOf S l y O).length = S.length := by
  unfold otherOf; split
  · exact otherTo_len ..
  · rfl
theorem otherOf_good (S : List UInt8) (l : List RunP) (y : Nat) (O : List UInt8) : goodT (otherOf S l y O) l = goodT S l := by
  unfold goodT; rw [otherOf_len]
theorem otherOf_within (S : List UInt8) (l : List RunP) (y : Nat) (O : List UInt8) (f t : Int) : withinT (otherOf S l y O) l f t = withinT S l f t := by
  unfold withinT; rw [otherOf_good, otherOf_len]
theorem otherOf_like {S : List UInt8} {l : List RunP} (hg : goodT S l = true) (y : Nat) (O : List UInt8) : LikeT S (otherOf S l y O) (bytesOf l) y := by
  have h := (goodT_size hg).2.2
  refine ⟨h, by rw [otherOf_len]; exact h, ?_⟩
  unfold otherOf
  split
  · have e2 : (bytesOf l).length = (otherTo S (bytesOf l) y O).length := by rw [otherTo_len]; exact h
    apply List.ext_getElem
    · rw [viewTo_len h, viewTo_len e2, otherTo_len]
    · intro k hk1 hk2
      rw [viewTo_len h] at hk1
      rw [viewTo_len e2] at hk2
      rw [viewTo_get h hk1, viewTo_get e2 hk2]
      by_cases hb : subB ((bytesOf l)[k]'(by omega)) y = true
      · rw [if_pos hb, if_pos hb]
        unfold otherTo
        have hkb : k < (bytesOf l).length := by omega
        simp [hkb, hk1, hb]
      · rw [if_neg hb, if_neg hb]
  · rfl
theorem like_cut (S : List UInt8) (l : List RunP) (y : Nat) (O : List UInt8) (f t : Int) : LikeR (cutOf S l f t) (cutOf (otherOf S l y O) l f t) y := by
  unfold cutOf
  rw [otherOf_within]
  by_cases hw : withinT S l f t = true
  · rw [if_pos hw, if_pos hw]
    obtain ⟨hg, h0, h1, h2⟩ := withinT_of hw
    obtain ⟨g1, g2, g3⟩ := goodT_size hg
    have hc := cut_len (b := bytesOf l) h0 h1 (by omega)
    exact ⟨rfl, fun _ => (((otherOf_like hg y O).drop f.toNat).take (t - f).toNat).low (by unfold cut at hc; omega)⟩
  · rw [if_neg hw, if_neg hw]
    exact ⟨rfl, fun h => by simp at h⟩
theorem like_raise (S : List UInt8) (l : List RunP) (y : Nat) (O : List UInt8) (x : Nat) : LikeR (raiseT S l x) (raiseT (otherOf S l y O) l x) y := by
  unfold raiseT
  rw [otherOf_good]
  by_cases hg : goodT S l = true
  · rw [if_pos hg, if_pos hg]
    obtain ⟨g1, g2, g3⟩ := goodT_size hg
    exact ⟨rfl, fun _ => ((otherOf_like hg y O).raise x).low (by rw [List.length_map]; omega)⟩
  · rw [if_neg hg, if_neg hg]
    exact ⟨rfl, fun h => by simp at h⟩
theorem like_splice (S : List UInt8) (l : List RunP) (X : List UInt8) (m : List RunP) (y : Nat) (O : List UInt8) (f t : Int) : LikeR (spliceT S l f t X m) (spliceT (otherOf S l y O) l f t (otherOf X m y O) m) y := by
  unfold spliceT
  rw [otherOf_within, otherOf_good, otherOf_len, otherOf_len]
  by_cases hw : withinT S l f t = true ∧ goodT X m = true
  · rw [if_pos hw, if_pos hw]
    obtain ⟨hg, h0, h1, h2⟩ := withinT_of hw.1
    obtain ⟨g1, g2, g3⟩ := goodT_size hg
    obtain ⟨k1, k2, k3⟩ := goodT_size hw.2
    by_cases hb : (S.length : Int) - (t - f) + (X.length : Int) ≤ 4096
    · rw [if_pos hb, if_pos hb]
      refine ⟨rfl, fun _ => ((((otherOf_like hg y O).take f.toNat).append (otherOf_like hw.2 y O)).append ((otherOf_like hg y O).drop t.toNat)).low ?_⟩
      rw [List.length_append, List.length_append, List.length_take, List.length_drop]
      omega
    · rw [if_neg hb, if_neg hb]
      exact ⟨rfl, fun h => by simp at h⟩
  · rw [if_neg hw, if_neg hw]
    exact ⟨rfl, fun h => by simp at h⟩
theorem like_cat (S : List UInt8) (l : List RunP) (X : List UInt8) (m : List RunP) (y : Nat) (O : List UInt8) : LikeR (catT S l X m) (catT (otherOf S l y O) l (otherOf X m y O) m) y := by
  unfold catT
  rw [otherOf_good, otherOf_good, otherOf_len]
  by_cases hw : goodT S l = true ∧ goodT X m = true
  · rw [if_pos hw, if_pos hw]
    exact like_splice S l X m y O _ _
  · rw [if_neg hw, if_neg hw]
    exact ⟨rfl, fun h => by simp at h⟩
end Go.Proofs.YtgmeamefbfgbgaaDoor

/-
  Two answers, alike at a level (over what strip says): layer 4.
-/
namespace Go.Proofs.YtgmeamefbfgbgaaDoor
set_option maxRecDepth 100000
open Go.RowKit

end Go.Proofs.YtgmeamefbfgbgaaDoor

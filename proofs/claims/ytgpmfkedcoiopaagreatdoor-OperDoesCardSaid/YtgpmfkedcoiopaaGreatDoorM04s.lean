/-
  Merged: StrSays, StrAlive, StrTwice, StrUp, StrLike, StrAlike.
-/
import Derived.Test.YtgpmfkedcoiopaaGreatDoorM04
import Derived.Test.YtgpmfkedcoiopaaGreatDoorM03
/-
  What package strip answers (to be proved of the landed one), and what follows for the statements: layer 4.
-/
namespace Go.Proofs.YtgpmfkedcoiopaaGreatDoor
set_option maxRecDepth 100000
open Go.RowKit

/-- a text and a number are the answer; whose row it is is not said -/
def Shows (w : World) (r : (List UInt8 × List RunP) × Nat) (e : Ending) (w' : World) : Prop :=
  ∃ A c, e = .returned (.tuple #[.agg #[.string ⟨r.1.1.toArray⟩, .slice A r.1.2.length c], .int .i64 (r.2 : Nat)]) ∧ Row w' w'.heap.size A (flatR r.1.2) ∧ Below w.heap.size w w'
/-- an answer that can be asked again -/
def OkT (r : (List UInt8 × List RunP) × Nat) : Prop := r.1.1.length ≤ 4096 ∧ Fits r.1.2 ∧ r.1.2.length ≤ maxLen
theorem okT_nil (n : Nat) : OkT (([], []), n) := ⟨by simp, fun r hr => by simp at hr, by simp⟩
theorem okT_pack {S : List UInt8} {b : List Nat} {n : Nat} (h : S.length ≤ 4096) (hb : ∀ x ∈ b, x < 18446744073709551616) (hl : b.length ≤ 4096) : OkT ((S, pack b), n) := ⟨h, fits_pack hb hl, pack_small hl⟩
theorem OkT.txt {r : (List UInt8 × List RunP) × Nat} (h : OkT r) {w : World} {B : Nat} {A : Option Addr} (hr : Row w B A (flatR r.1.2)) : Txt w B A r.1.1 r.1.2 := ⟨by have := h.1; unfold maxLen; omega, h.2.1, h.2.2, hr⟩
theorem okT_make (S : List UInt8) (x : Nat) (hx : x < 18446744073709551616) : OkT (makeOf S x) := by
  unfold makeOf
  split
  · next h => exact okT_pack h (fun y hy => by rw [(List.mem_replicate.1 hy).2]; exact hx) (by rw [List.length_replicate]; exact h)
  · exact okT_nil _
theorem okT_cut {S : List UInt8} {l : List RunP} (hf : Fits l) (f t : Int) : OkT (cutOf S l f t) := by
  unfold cutOf
  split
  · next h =>
    obtain ⟨hg, h0, h1, h2⟩ := withinT_of h
    obtain ⟨g1, g2, g3⟩ := goodT_size hg
    have := cut_len (b := bytesOf l) h0 h1 (by omega)
    exact okT_pack (by rw [List.length_take, List.length_drop]; omega) (cut_mem (bytesOf_mem hf)) (by omega)
  · exact okT_nil _
theorem okT_splice {S X : List UInt8} {l m : List RunP} (hf : Fits l) (hf2 : Fits m) (f t : Int) : OkT (spliceT S l f t X m) := by
  unfold spliceT
  split
  · next h =>
    split
    · next hb =>
      obtain ⟨hg, h0, h1, h2⟩ := withinT_of h.1
      obtain ⟨g1, g2, g3⟩ := goodT_size hg
      obtain ⟨k1, k2, k3⟩ := goodT_size h.2
      have a1 := splice_size (b := bytesOf l) (m := bytesOf m) h0 h1 (by omega)
      refine okT_pack ?_ (mem_append_lt (mem_append_lt (fun x hx => bytesOf_mem hf x (List.mem_of_mem_take hx)) (bytesOf_mem hf2)) (fun x hx => bytesOf_mem hf x (List.mem_of_mem_drop hx))) (by omega)
      rw [List.length_append, List.length_append, List.length_take, List.length_drop]; omega
    · exact okT_nil _
  · exact okT_nil _
theorem okT_cat {S X : List UInt8} {l m : List RunP} (hf : Fits l) (hf2 : Fits m) : OkT (catT S l X m) := by
  unfold catT
  split
  · exact okT_splice hf hf2 _ _
  · exact okT_nil _

set_option maxHeartbeats 400000 in
theorem lawFits_any (S : List UInt8) (hS : S.length ≤ maxLen) (l : List RunP) (hl : l.length ≤ maxLen) (A : Option Addr) (c : Nat) (w : World) :
    Calls Tryz.prog 45 #[.agg #[.string ⟨S.toArray⟩, .slice A l.length c]] w fun e w' => e = .returned (.bool (decide (S.length ≤ 5000 ∧ l.length ≤ 5000))) ∧ Below w.heap.size w w' := by
  unfold maxLen at hS hl
  by_cases h1 : S.length ≤ 5000
  · by_cases h2 : l.length ≤ 5000
    · have HD : Hid (decide (S.length ≤ 5000 ∧ l.length ≤ 5000) = true) := decide_eq_true ⟨h1, h2⟩
      go_enter Tryz.func45, Tryz.ntmps45
      go_wp2
      go_ret
      exact ⟨by rw [HD.out]; simp; omega, (Below.refl _ w).alloc (Nat.le_refl _) _⟩
    · have HD : Hid (decide (S.length ≤ 5000 ∧ l.length ≤ 5000) = false) := decide_eq_false (fun h => h2 h.2)
      go_enter Tryz.func45, Tryz.ntmps45
      go_wp2
      go_ret
      exact ⟨by rw [HD.out]; simp; omega, (Below.refl _ w).alloc (Nat.le_refl _) _⟩
  · have hd : decide (S.length ≤ 5000 ∧ l.length ≤ 5000) = false := decide_eq_false (fun h => h1 h.1)
    rw [hd]
    clear hd
    go_enter Tryz.func45, Tryz.ntmps45
    go_wp2
    go_ret
    exact ⟨rfl, (Below.refl _ w).alloc (Nat.le_refl _) _⟩
end Go.Proofs.YtgpmfkedcoiopaaGreatDoor

/-
  The answers that the document fixes: layer 4.
-/
namespace Go.Proofs.YtgpmfkedcoiopaaGreatDoor
set_option maxRecDepth 100000
open Go.RowKit

end Go.Proofs.YtgpmfkedcoiopaaGreatDoor

/-
  A text that is cut and put together again: layer 4, as plain lists.
-/
namespace Go.Proofs.YtgpmfkedcoiopaaGreatDoor
set_option maxRecDepth 100000
open Go.RowKit

theorem withinT_iff (S : List UInt8) (l : List RunP) (f t : Int) : withinT S l f t = true ↔ goodT S l = true ∧ 0 ≤ f ∧ f ≤ t ∧ t ≤ (S.length : Int) := by
  unfold withinT; simp
end Go.Proofs.YtgpmfkedcoiopaaGreatDoor

/-
  What a lower level sees, a higher one sees too: layer 4, as plain lists.
-/
namespace Go.Proofs.YtgpmfkedcoiopaaGreatDoor
set_option maxRecDepth 100000
open Go.RowKit

theorem viewTo_get {S : List UInt8} {bs : List Nat} {y k : Nat} (h : bs.length = S.length) (hk : k < S.length) :
    (viewTo S bs y)[k]'(by rw [viewTo_len h]; exact hk) = if subB (bs[k]'(by omega)) y = true then S[k] else 35 := by
  unfold viewTo
  simp
end Go.Proofs.YtgpmfkedcoiopaaGreatDoor

/-
  What is hidden stays hidden: cut, catenated, spliced, raised (layer 4, as plain lists).
-/
namespace Go.Proofs.YtgpmfkedcoiopaaGreatDoor
set_option maxRecDepth 100000
open Go.RowKit

/-- two texts under the same labels that show the same at a level -/
structure LikeT (S T : List UInt8) (bs : List Nat) (y : Nat) : Prop where
  hS : bs.length = S.length
  hT : bs.length = T.length
  same : viewTo S bs y = viewTo T bs y
theorem viewTo_take (S : List UInt8) (bs : List Nat) (y n : Nat) : viewTo (S.take n) (bs.take n) y = (viewTo S bs y).take n := by
  unfold viewTo; rw [List.zip, ← List.take_zipWith, List.map_take]
theorem viewTo_drop (S : List UInt8) (bs : List Nat) (y n : Nat) : viewTo (S.drop n) (bs.drop n) y = (viewTo S bs y).drop n := by
  unfold viewTo; rw [List.zip, ← List.drop_zipWith, List.map_drop]
theorem viewTo_append {S X : List UInt8} {bs cs : List Nat} {y : Nat} (h : bs.length = S.length) : viewTo (S ++ X) (bs ++ cs) y = viewTo S bs y ++ viewTo X cs y := by
  unfold viewTo; rw [List.zip_append h.symm, List.map_append]
theorem LikeT.take {S T : List UInt8} {bs : List Nat} {y : Nat} (h : LikeT S T bs y) (n : Nat) : LikeT (S.take n) (T.take n) (bs.take n) y :=
  ⟨by rw [List.length_take, List.length_take, h.hS], by rw [List.length_take, List.length_take, h.hT], by rw [viewTo_take, viewTo_take, h.same]⟩
theorem LikeT.drop {S T : List UInt8} {bs : List Nat} {y : Nat} (h : LikeT S T bs y) (n : Nat) : LikeT (S.drop n) (T.drop n) (bs.drop n) y :=
  ⟨by rw [List.length_drop, List.length_drop, h.hS], by rw [List.length_drop, List.length_drop, h.hT], by rw [viewTo_drop, viewTo_drop, h.same]⟩
theorem LikeT.append {S T X Y : List UInt8} {bs cs : List Nat} {y : Nat} (h : LikeT S T bs y) (k : LikeT X Y cs y) : LikeT (S ++ X) (T ++ Y) (bs ++ cs) y :=
  ⟨by rw [List.length_append, List.length_append, h.hS, k.hS], by rw [List.length_append, List.length_append, h.hT, k.hT], by rw [viewTo_append h.hS, viewTo_append h.hT, h.same, k.same]⟩
/-- alike texts, packed again -/
theorem LikeT.low {S T : List UInt8} {bs : List Nat} {y : Nat} (h : LikeT S T bs y) (hn : bs.length ≤ 4096) : lowT S T (pack bs) (pack bs) y = true := by
  unfold lowT
  rw [decide_eq_true_iff, bytesOf_pack]
  exact ⟨(goodT_iff _ _).2 ⟨goodB_pack hn, by rw [bytesOf_pack]; exact h.hS⟩, (goodT_iff _ _).2 ⟨goodB_pack hn, by rw [bytesOf_pack]; exact h.hT⟩, rfl, h.same⟩
/-- the answers that two alike texts may have -/
def LikeR (r s : (List UInt8 × List RunP) × Nat) (y : Nat) : Prop := r.2 = s.2 ∧ (r.2 = 0 → lowT r.1.1 s.1.1 r.1.2 s.1.2 y = true)
end Go.Proofs.YtgpmfkedcoiopaaGreatDoor

/-
  Two answers, alike at a level (over what strip says): layer 4.
-/
namespace Go.Proofs.YtgpmfkedcoiopaaGreatDoor
set_option maxRecDepth 100000
open Go.RowKit

end Go.Proofs.YtgpmfkedcoiopaaGreatDoor

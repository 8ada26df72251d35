/-
  slices.overlaps of two rows in two blocks; lists that are shifted: layer 5.
-/
import Derived.Test.YtacpfkkbjibmgaaPieJoined
namespace Go.Proofs.Ytacpfkkbjibmgaa
open Go.RowKit

theorem shape_of_row {w : World} {g T : Nat} {cs : Array Value} (h : Blk w g T cs) : w.shape? g = some (T, cs.size) := by
  unfold Blk at h
  simp [World.shape?, h]
theorem pie_size : ∀ w : World, (Go.sizeOf 73).run Try.prog w = .ok 3 w := by
  obtain ⟨i, hi, _, h1, _⟩ := info_parts elt_pie.hi
  intro w
  simp [sizeOf, typeInfo, hi, h1]
theorem run_overlaps {w : World} {ga gb Ta Tb : Nat} {ca cb : Array Value} (ha : Blk w ga Ta ca) (hb : Blk w gb Tb cb) (hne : ga ≠ gb) (hcb : cb.size ≠ 0) (oa ob la xa lb xb : Nat) :
    (callFunc 41 #[.slice (some ⟨ga, oa, none⟩) la xa, .slice (some ⟨gb, ob, none⟩) lb xb]).run Try.prog w = .ok (.value (.bool false)) w := by
  rw [run_callFunc_extern Try.func41 (by kernel_rfl) (by kernel_rfl) (by kernel_rfl) (e := Extern.SlicesOverlaps.overlaps #[52, 52] #[4]) (by kernel_rfl),
    Lib.run_overlaps_apart w 52 4 73 Try.underlying52 3 pie_size ⟨ga, oa, none⟩ ⟨gb, ob, none⟩ la xa lb xb hne Ta Tb ca.size cb.size (shape_of_row ha) (shape_of_row hb) hcb (ha.frozen _) (ha.frozen _)]
  rfl

/-- what was shifted up, or fresh, and then filled -/
theorem shift_take {α : Type} (L ds X : List α) (a : Nat) (h : a + ds.length + X.length ≤ L.length) : (splice (splice L (a + ds.length) X) a ds).take (a + ds.length + X.length) = L.take a ++ ds ++ X ∧ (splice (splice L (a + ds.length) X) a ds).length = L.length := by
  have h1 : (splice L (a + ds.length) X).length = L.length := length_splice _ _ _ h
  refine ⟨?_, by rw [length_splice _ _ _ (by rw [h1]; omega), h1]⟩
  have e : splice (splice L (a + ds.length) X) a ds = L.take a ++ ds ++ X ++ L.drop (a + ds.length + X.length) := by
    unfold splice
    have hla : (L.take a).length = a := by rw [List.length_take]; omega
    have hlb : (L.take (a + ds.length)).length = a + ds.length := by rw [List.length_take]; omega
    rw [List.take_append_of_le_length (by omega), List.take_take, Nat.min_eq_left (by omega), List.drop_left' hlb]
    simp only [List.append_assoc]
  rw [e, List.take_left' (by simp; omega)]
theorem fill_take {α : Type} (L ds X : List α) (a : Nat) (h : a + ds.length + X.length ≤ L.length) : (splice (splice L a ds) (a + ds.length) X).take (a + ds.length + X.length) = L.take a ++ ds ++ X ∧ (splice (splice L a ds) (a + ds.length) X).length = L.length := by
  have h1 : (splice L a ds).length = L.length := length_splice _ _ _ (by omega)
  refine ⟨?_, by rw [length_splice _ _ _ (by rw [h1]; exact h), h1]⟩
  have hla : (L.take a).length = a := by rw [List.length_take]; omega
  have e : splice (splice L a ds) (a + ds.length) X = L.take a ++ ds ++ X ++ L.drop (a + ds.length + X.length) := by
    unfold splice
    rw [← List.append_assoc (L.take a), List.take_left' (by rw [List.length_append, hla]), List.drop_append, List.drop_of_length_le (by rw [List.length_append, hla]; omega), List.drop_drop, List.length_append, hla]
    simp only [List.nil_append, List.append_assoc]
    congr 4
    omega
  rw [e, List.take_left' (by simp; omega)]
theorem splice_take_low {α : Type} (L X : List α) (o k : Nat) (hk : k ≤ o) (ho : o ≤ L.length) : (splice L o X).take k = L.take k := by
  unfold splice
  rw [List.take_append_of_le_length (by rw [List.length_take]; omega), List.take_take, Nat.min_eq_left hk]
theorem splice_get_far {α : Type} (L X : List α) (o j : Nat) (h : o + X.length ≤ L.length) (hj : j < o ∨ o + X.length ≤ j) : (splice L o X)[j]? = L[j]? := by
  unfold splice
  have hla : (L.take o).length = o := by rw [List.length_take]; omega
  rcases hj with hj | hj
  · rw [List.getElem?_append_left (by omega), List.getElem?_take_of_lt hj]
  · rw [List.getElem?_append_right (by omega), List.getElem?_append_right (by omega), List.getElem?_drop, hla]
    congr 1
    omega
/-- a row that is cut short -/
theorem own_short {w : World} {base e size n c i : Nat} {A : Option Addr} {xs : List Value} (h : w.ownsRow base e size (.slice A n c) n xs) (hi : i ≤ n) : w.ownsRow base e size (.slice A i c) i (xs.take (i * size)) := by
  have hl := h.1
  refine ⟨by rw [List.length_take, hl]; exact Nat.min_eq_left (Nat.mul_le_mul_right _ hi), ?_⟩
  rcases h.2 with ⟨hv, h0⟩ | ⟨g, cap, cur, hv, hb, hg, hn, hm, hs, ht⟩
  · left
    injection hv with a b c
    subst a c
    obtain rfl : i = 0 := by omega
    exact ⟨rfl, rfl⟩
  · right
    injection hv with a b c
    subst a c
    exact ⟨g, _, cur, rfl, hb, hg, by omega, hm, hs, by rw [← ht, List.take_take, Nat.min_eq_left (Nat.mul_le_mul_right _ hi)]⟩
end Go.Proofs.Ytacpfkkbjibmgaa

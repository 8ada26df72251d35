/-
  Lists of pieces as rows of cells, and a store's memory: layer 5.
-/
import Derived.Test.YtacpfkkbjibmgaaPieMath
import Derived.Test.YtacpfkkbjibmgaaPieMem
import Derived.Test.YtacpfkkbjibmgaaM04
namespace Go.Proofs.Ytacpfkkbjibmgaa
open Go.RowKit

def flatP (l : List PieP) : List Value := l.flatMap fun p => [.int .i64 (p.1 : Nat), .int .i64 (p.2.1 : Nat), .int .u64 (p.2.2 : Nat)]
theorem flatP_nil : flatP [] = [] := rfl
theorem flatP_append (l m : List PieP) : flatP (l ++ m) = flatP l ++ flatP m := by simp [flatP]
theorem flatP_one (p : PieP) : flatP [p] = [.int .i64 (p.1 : Nat), .int .i64 (p.2.1 : Nat), .int .u64 (p.2.2 : Nat)] := rfl
theorem flatP_len (l : List PieP) : (flatP l).length = l.length * 3 := by
  induction l with
  | nil => rfl
  | cons p l ih => simp only [flatP, List.flatMap_cons, List.length_append, List.length_cons] at *; rw [ih]; simp; omega
theorem flatP_get (l : List PieP) (k : Nat) (hk : k < l.length) : (flatP l)[k * 3]? = some (.int .i64 (l[k].1 : Nat)) ∧ (flatP l)[k * 3 + 1]? = some (.int .i64 (l[k].2.1 : Nat)) ∧ (flatP l)[k * 3 + 2]? = some (.int .u64 (l[k].2.2 : Nat)) := by
  induction l generalizing k with
  | nil => simp at hk
  | cons p l ih =>
    cases k with
    | zero => simp [flatP]
    | succ k =>
      have := ih k (by simpa using hk)
      simp only [flatP, List.flatMap_cons, List.getElem_cons_succ] at *
      rw [List.getElem?_append_right (by simp; omega), List.getElem?_append_right (by simp; omega), List.getElem?_append_right (by simp; omega)]
      simp only [List.length_cons, List.length_nil]
      rw [show (k + 1) * 3 - (0 + 1 + 1 + 1) = k * 3 by omega, show (k + 1) * 3 + 1 - (0 + 1 + 1 + 1) = k * 3 + 1 by omega, show (k + 1) * 3 + 2 - (0 + 1 + 1 + 1) = k * 3 + 2 by omega]
      exact this
theorem flatP_take (l : List PieP) (k : Nat) : (flatP l).take (k * 3) = flatP (l.take k) := by
  by_cases hk : k ≤ l.length
  · have e : flatP l = flatP (l.take k) ++ flatP (l.drop k) := by rw [← flatP_append, List.take_append_drop]
    rw [e, List.take_left' (by rw [flatP_len, List.length_take]; omega)]
  · rw [List.take_of_length_le (by rw [flatP_len]; omega), List.take_of_length_le (by omega)]
theorem flatP_drop (l : List PieP) (k : Nat) : (flatP l).drop (k * 3) = flatP (l.drop k) := by
  by_cases hk : k ≤ l.length
  · have e : flatP l = flatP (l.take k) ++ flatP (l.drop k) := by rw [← flatP_append, List.take_append_drop]
    rw [e, List.drop_left' (by rw [flatP_len, List.length_take]; omega)]
  · rw [List.drop_of_length_le (by rw [flatP_len]; omega), List.drop_of_length_le (by omega)]; rfl
theorem flatP_cell (l : List PieP) : ∀ u ∈ flatP l, u.oneCell' = true := by
  intro u hu
  unfold flatP at hu
  obtain ⟨p, _, hu⟩ := List.mem_flatMap.1 hu
  simp at hu
  rcases hu with rfl | rfl | rfl <;> rfl
theorem pie_field (ad : Addr) (k : Nat) : ad.add (k * 3 + 1) = ⟨(ad.add (k * 3)).block, (ad.add (k * 3)).off + 1, none⟩ ∧ ad.add (k * 3 + 2) = ⟨(ad.add (k * 3)).block, (ad.add (k * 3)).off + 2, none⟩ := by
  unfold Addr.add
  by_cases hn : k = 0
  · subst hn; simp
  · have : k * 3 ≠ 0 := by omega
    simp [this]; omega
theorem pie_cells {w : World} {B : Nat} {A : Option Addr} {l : List PieP} (h : Row w B A (flatP l)) {k : Nat} (hk : k < l.length) :
    ∃ ad, A = some ad ∧ ad.block < B ∧ w.cell? (ad.add (k * 3)) = some (.int .i64 (l[k].1 : Nat)) ∧ w.cell? ⟨(ad.add (k * 3)).block, (ad.add (k * 3)).off + 1, none⟩ = some (.int .i64 (l[k].2.1 : Nat)) ∧ w.cell? ⟨(ad.add (k * 3)).block, (ad.add (k * 3)).off + 2, none⟩ = some (.int .u64 (l[k].2.2 : Nat)) := by
  rcases h with h | ⟨ad, rfl, hb, hc⟩
  · have := congrArg List.length h
    rw [flatP_len] at this
    simp at this; omega
  · have c1 := hc _ _ (flatP_get l k hk).2.1
    have c2 := hc _ _ (flatP_get l k hk).2.2
    rw [(pie_field _ _).1] at c1
    rw [(pie_field _ _).2] at c2
    exact ⟨ad, rfl, hb, hc _ _ (flatP_get l k hk).1, c1, c2⟩

theorem elt_pie : Elt Try.prog 52 73 (.agg #[.int .i64 0, .int .i64 0, .int .u64 0]) 3 24 := ⟨Try.underlying52, by kernel_rfl, rfl, by decide⟩

/-- a piece's variable, just made -/
theorem pie_box {w wr : World} (hb : Below w.heap.size w wr) (T : TypeId) (a b c : Value) : Blk (wr.alloc (.cells #[a, b, c] T)) wr.heap.size T #[a, b, c] ∧ Below w.heap.size w (wr.alloc (.cells #[a, b, c] T)) ∧ (wr.alloc (.cells #[a, b, c] T)).heap.size = wr.heap.size + 1 ∧ Below wr.heap.size wr (wr.alloc (.cells #[a, b, c] T)) :=
  ⟨Blk.new _ _ _, hb.alloc hb.size _, by simp, (Below.refl _ _).alloc (Nat.le_refl _) _⟩
theorem blk_three {w : World} {g : Nat} {T : TypeId} {a b c : Value} (h : Blk w g T #[a, b, c]) : w.cell? ⟨g, 0, none⟩ = some a ∧ w.cell? ⟨g, 1, none⟩ = some b ∧ w.cell? ⟨g, 2, none⟩ = some c :=
  ⟨by have := h.cell 0; simpa using this, by have := h.cell 1; simpa using this, by have := h.cell 2; simpa using this⟩
theorem lenP_take_bound {ps : List PieP} (hl : lenP ps ≤ 4096) (k : Nat) : lenP (ps.take k) ≤ 4096 := Nat.le_trans (lenP_take_le ps k) hl
end Go.Proofs.Ytacpfkkbjibmgaa

/-
  The landed Of: layer 7.
-/
import Derived.Test.YtfeaffabminpfaaEdiInv
namespace Go.Proofs.Ytfeaffabminpfaa
open Go.RowKit

theorem givesE_zero {w w3 : World} {gr : Nat} {v0 v1 v2 v3 v4 : Value} (hb : Below w.heap.size w w3) (hg : Blk w3 gr 34 #[v0, v1, v2, v3, v4]) (h1 : w.heap.size ≤ gr) (n : Nat) :
    Blk (((((w3.setCell ⟨gr, 0, none⟩ (.int .i64 0)).setCell ⟨gr, 1, none⟩ (.string ⟨#[]⟩)).setCell ⟨gr, 2, none⟩ (.slice none 0 0)).setCell ⟨gr, 3, none⟩ (.string ⟨#[]⟩)).setCell ⟨gr, 4, none⟩ (.slice none 0 0)) gr 34 #[.int .i64 0, .string ⟨#[]⟩, .slice none 0 0, .string ⟨#[]⟩, .slice none 0 0] ∧
    GivesE w (⟨0, [], [], [], []⟩, n) (.returned (.tuple #[.agg #[.int .i64 0, .string ⟨#[]⟩, .slice none 0 0, .string ⟨#[]⟩, .slice none 0 0], .int .i64 (n : Nat)])) (((((w3.setCell ⟨gr, 0, none⟩ (.int .i64 0)).setCell ⟨gr, 1, none⟩ (.string ⟨#[]⟩)).setCell ⟨gr, 2, none⟩ (.slice none 0 0)).setCell ⟨gr, 3, none⟩ (.string ⟨#[]⟩)).setCell ⟨gr, 4, none⟩ (.slice none 0 0)) := by
  have E := edit_end (A := none) (A2 := none) (l := []) (m := []) (s := ⟨#[]⟩) (x := ⟨#[]⟩) 0 hb hg h1 (.inl rfl) (.inl rfl) (.slice none 0 0) (.slice none 0 0)
  exact ⟨E.1, none, 0, none, 0, rfl, E.2.1, E.2.2.1, E.2.2.2⟩
theorem givesEN_zero {w w3 : World} {gr : Nat} {v0 v1 v2 v3 v4 : Value} (hb : Below w.heap.size w w3) (hg : Blk w3 gr 34 #[v0, v1, v2, v3, v4]) (h1 : w.heap.size ≤ gr) (n : Nat) :
    Blk (((((w3.setCell ⟨gr, 0, none⟩ (.int .i64 0)).setCell ⟨gr, 1, none⟩ (.string ⟨#[]⟩)).setCell ⟨gr, 2, none⟩ (.slice none 0 0)).setCell ⟨gr, 3, none⟩ (.string ⟨#[]⟩)).setCell ⟨gr, 4, none⟩ (.slice none 0 0)) gr 34 #[.int .i64 0, .string ⟨#[]⟩, .slice none 0 0, .string ⟨#[]⟩, .slice none 0 0] ∧
    GivesEN w (⟨0, [], [], [], []⟩, n) (.returned (.tuple #[.agg #[.int .i64 0, .string ⟨#[]⟩, .slice none 0 0, .string ⟨#[]⟩, .slice none 0 0], .int .i64 (n : Nat)])) (((((w3.setCell ⟨gr, 0, none⟩ (.int .i64 0)).setCell ⟨gr, 1, none⟩ (.string ⟨#[]⟩)).setCell ⟨gr, 2, none⟩ (.slice none 0 0)).setCell ⟨gr, 3, none⟩ (.string ⟨#[]⟩)).setCell ⟨gr, 4, none⟩ (.slice none 0 0)) := by
  have E := edit_end (A := none) (A2 := none) (l := []) (m := []) (s := ⟨#[]⟩) (x := ⟨#[]⟩) 0 hb hg h1 (.inl rfl) (.inl rfl) (.slice none 0 0) (.slice none 0 0)
  exact ⟨E.1, none, 0, none, 0, rfl, .inl rfl, .inl rfl, E.2.2.2⟩
theorem two_far {w : World} {g T : Nat} {a b : Value} (h : Blk w g T #[a, b]) {k : Nat} (hk : g ≠ k) (v x y z u : Value) :
    (((((w.setCell ⟨k, 0, none⟩ v).setCell ⟨k, 1, none⟩ x).setCell ⟨k, 2, none⟩ y).setCell ⟨k, 3, none⟩ z).setCell ⟨k, 4, none⟩ u).cell? ⟨g, 0, none⟩ = some a ∧
    (((((w.setCell ⟨k, 0, none⟩ v).setCell ⟨k, 1, none⟩ x).setCell ⟨k, 2, none⟩ y).setCell ⟨k, 3, none⟩ z).setCell ⟨k, 4, none⟩ u).cell? ⟨g, 1, none⟩ = some b :=
  txt_cells (((((h.far (p := ⟨k, 0, none⟩) hk v).far (p := ⟨k, 1, none⟩) hk x).far (p := ⟨k, 2, none⟩) hk y).far (p := ⟨k, 3, none⟩) hk z).far (p := ⟨k, 4, none⟩) hk u)

end Go.Proofs.Ytfeaffabminpfaa

/-
  A store while calls are played on it: layer 5.
-/
import Derived.Test.YtacpfkkbjibmgaaPieAlive
import Derived.Test.YtacpfkkbjibmgaaPieBack
import Derived.Test.YtacpfkkbjibmgaaActOpen
namespace Go.Proofs.Ytacpfkkbjibmgaa
open Go.RowKit

/-- a store while calls are played on it -/
def Plays (w1 wr : World) (g most : Nat) : Prop := ∃ O S b, Sto wr O g most S b ∧ (∀ k, O k → w1.heap.size ≤ k) ∧ Below w1.heap.size w1 wr
theorem Plays.fresh {w1 wr w' : World} {g most : Nat} (h : Plays w1 wr g most) (hb : Below wr.heap.size wr w') : Plays w1 w' g most := by
  obtain ⟨O, S, b, h1, h2, h3⟩ := h
  exact ⟨O, S, b, h1.fresh hb, h2, h3.trans (hb.mono h3.size)⟩
theorem plays_put {w1 wr : World} {g most B : Nat} (h : Plays w1 wr g most) (hB : B ≤ w1.heap.size) (A : Option Addr) (c : Nat) (X : List UInt8) (m : List RunP) (f t : Int) (hT : Txt wr B A X m) :
    Calls Try.prog 15 #[.pointer (some ⟨g, 0, none⟩), .int .i64 f, .int .i64 t, .agg #[.string ⟨X.toArray⟩, .slice A m.length c]] wr fun e w' => ∃ n : Nat, e = .returned (.int .i64 (n : Nat)) ∧ Plays w1 w' g most := by
  obtain ⟨O, S, b, h1, h2, h3⟩ := h
  refine (stoPut_any h1 A c X m f t hT.hS hT.hf hT.hl (RowF.of_row hT.row (Nat.le_trans hB h3.size) (fun k hk h => by have := h2 k h; omega))).mono ?_
  rintro e w' ⟨O', rfl, s, p, ch⟩
  exact ⟨_, rfl, O', _, _, s, fun k hk => (p k hk).elim (h2 k) (fun h => Nat.le_trans h3.size h), h3.trans (ch.below h3.size h2)⟩

theorem rowF_put {w w' : World} {O O' : Nat → Prop} {A : Option Addr} {xs : List Value} (h : RowF w O A xs) (hc : Chg O w w') (hp : ∀ k, O' k → O k ∨ w.heap.size ≤ k) : RowF w' O' A xs :=
  ((h.less (Q := fun k => O k ∨ w.heap.size ≤ k) (fun k hk h => h.elim id (fun h => by omega))).chg (hc.more (fun k _ h => .inl h))).less (fun k _ h => hp k h)
theorem act_cells {w : World} {g : Nat} {T : TypeId} {a b c d e f : Value} (h : Blk w g T #[a, b, c, d, e, f]) : w.cell? ⟨g, 0, none⟩ = some a ∧ w.cell? ⟨g, 1, none⟩ = some b ∧ w.cell? ⟨g, 2, none⟩ = some c ∧ w.cell? ⟨g, 3, none⟩ = some d :=
  ⟨by have := h.cell 0; simpa using this, by have := h.cell 1; simpa using this, by have := h.cell 2; simpa using this, by have := h.cell 3; simpa using this⟩

end Go.Proofs.Ytacpfkkbjibmgaa

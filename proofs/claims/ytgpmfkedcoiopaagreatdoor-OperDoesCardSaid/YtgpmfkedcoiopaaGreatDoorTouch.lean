/-
  What a call touches: only blocks of P; rows and texts that lie outside P: layers 8 and 9.
-/
import Derived.Test.YtgpmfkedcoiopaaGreatDoorM07e
namespace Go.Proofs.YtgpmfkedcoiopaaGreatDoor
set_option maxRecDepth 100000
open Go.RowKit

/-- only blocks of P are touched -/
structure Tch (P : Nat → Prop) (w w' : World) : Prop where
  os : w'.os = w.os
  tape : w'.tape = w.tape
  output : w'.output = w.output
  size : w.heap.size ≤ w'.heap.size
  block : ∀ k, k < w.heap.size → ¬ P k → w'.heap[k]? = w.heap[k]?
section
variable {P Q : Nat → Prop} {a b c w w' : World}
theorem Tch.refl (P : Nat → Prop) (w : World) : Tch P w w := ⟨rfl, rfl, rfl, Nat.le_refl _, fun _ _ _ => rfl⟩
theorem Tch.trans (h : Tch P a b) (h' : Tch P b c) : Tch P a c := ⟨h'.os.trans h.os, h'.tape.trans h.tape, h'.output.trans h.output, Nat.le_trans h.size h'.size, fun k hk hn => (h'.block k (Nat.lt_of_lt_of_le hk h.size) hn).trans (h.block k hk hn)⟩
theorem Tch.more (h : Tch P a b) (hPQ : ∀ k, P k → Q k) : Tch Q a b := ⟨h.os, h.tape, h.output, h.size, fun k hk hn => h.block k hk (fun hp => hn (hPQ k hp))⟩
theorem Tch.fresh (h : Below a.heap.size a b) : Tch P a b := ⟨h.os, h.tape, h.output, h.size, fun k hk _ => h.block k hk⟩
theorem Tch.below {B : Nat} (h : Tch P a b) (hB : B ≤ a.heap.size) (hP : ∀ k, P k → B ≤ k) : Below B a b := ⟨h.os, h.tape, h.output, h.size, fun k hk => h.block k (Nat.lt_of_lt_of_le hk hB) (fun hp => by have := hP k hp; omega)⟩
theorem Tch.drewN (h : Tch P a b) (n : Nat) : Tch P a (b.drewN n) := ⟨h.os, h.tape, h.output, h.size, h.block⟩
theorem Tch.setCell (h : Tch P a b) {p : Addr} (hp : p.block < a.heap.size → P p.block) (u : Value) : Tch P a (b.setCell p u) :=
  ⟨h.os, h.tape, h.output, by have := h.size; simpa using this, fun k hk hn => (heap_setCell_other b p k u (fun e => hn (by subst e; exact hp hk))).trans (h.block k hk hn)⟩
theorem Tch.grown {i : Nat} (h : a.grownBy b (some i)) : Tch (fun k => k = i) a b := ⟨h.os, h.tape, h.output, h.size, fun k hk hn => h.block k hk (fun e => hn (Option.some.inj e))⟩
theorem Blk.tch {g T : Nat} {cs : Array Value} (h : Blk w g T cs) (hc : Tch P w w') (hg : ¬ P g) : Blk w' g T cs := (hc.block g h.lt hg).trans h
end

/-- cells that lie outside P -/
def RowO (w : World) (P : Nat → Prop) (A : Option Addr) (xs : List Value) : Prop := xs = [] ∨ ∃ ad, A = some ad ∧ ad.block < w.heap.size ∧ ¬ P ad.block ∧ ∀ j u, xs[j]? = some u → w.cell? (ad.add j) = some u
section
variable {P Q : Nat → Prop} {w w' : World} {A : Option Addr} {xs : List Value}
theorem RowO.row (h : RowO w P A xs) : Row w w.heap.size A xs := by
  rcases h with h | ⟨ad, e, hb, _, hc⟩
  · exact .inl h
  · exact .inr ⟨ad, e, hb, hc⟩
theorem RowO.tch (h : RowO w P A xs) (hc : Tch P w w') : RowO w' P A xs := by
  rcases h with h | ⟨ad, e, hb, hn, hcell⟩
  · exact .inl h
  · refine .inr ⟨ad, e, Nat.lt_of_lt_of_le hb hc.size, hn, fun j u hj => ?_⟩
    rw [← hcell j u hj]
    exact World.cell?_of_block (by rw [add_block]; exact hc.block _ hb hn)
theorem RowO.of_row {B : Nat} (h : Row w B A xs) (hB : B ≤ w.heap.size) (hP : ∀ k, k < B → ¬ P k) : RowO w P A xs := by
  rcases h with h | ⟨ad, e, hb, hcell⟩
  · exact .inl h
  · exact .inr ⟨ad, e, by omega, hP _ hb, hcell⟩
theorem RowO.of_rowG {B : Nat} (h : RowG w B A xs) (hP : ∀ k, B ≤ k → ¬ P k) : RowO w P A xs := by
  rcases h with h | ⟨ad, e, hb, hl, hcell⟩
  · exact .inl h
  · exact .inr ⟨ad, e, hl, hP _ hb, hcell⟩
theorem RowO.other (h : RowO w P A xs) (hQ : ∀ k, k < w.heap.size → ¬ Q k) : RowO w Q A xs := by
  rcases h with h | ⟨ad, e, hb, hn, hcell⟩
  · exact .inl h
  · exact .inr ⟨ad, e, hb, hQ _ hb, hcell⟩
end
/-- a text that is held outside P -/
structure TxO (w : World) (P : Nat → Prop) (A : Option Addr) (S : List UInt8) (l : List RunP) : Prop where
  hS : S.length ≤ maxLen
  hf : Fits l
  hl : l.length ≤ maxLen
  row : RowO w P A (flatR l)
section
variable {P Q : Nat → Prop} {w w' : World} {A : Option Addr} {S : List UInt8} {l : List RunP}
theorem TxO.txu (h : TxO w P A S l) : Txu w A S l := ⟨h.hS, h.hf, h.hl, h.row.row⟩
theorem TxO.tch (h : TxO w P A S l) (hc : Tch P w w') : TxO w' P A S l := ⟨h.hS, h.hf, h.hl, h.row.tch hc⟩
theorem TxO.fresh (h : TxO w P A S l) (hb : Below w.heap.size w w') : TxO w' P A S l := h.tch (Tch.fresh hb)
theorem TxO.other (h : TxO w P A S l) (hQ : ∀ k, k < w.heap.size → ¬ Q k) : TxO w Q A S l := ⟨h.hS, h.hf, h.hl, h.row.other hQ⟩
end
end Go.Proofs.YtgpmfkedcoiopaaGreatDoor

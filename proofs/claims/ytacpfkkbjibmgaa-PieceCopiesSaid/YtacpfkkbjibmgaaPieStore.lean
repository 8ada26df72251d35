/-
  A store's memory: layer 5.
-/
import Derived.Test.YtacpfkkbjibmgaaPieRep4
namespace Go.Proofs.Ytacpfkkbjibmgaa
open Go.RowKit

theorem at_append {P : Program} {w : World} {ops : Array Oper} {rest : List Oper} {a : Act} {Q : Exit → Act → World → Prop} {d : Option Nat} {ty : TypeId} {pos : String} {after : Array Edge} {g : Option (Nat × Bool)} (x y : Operand) (T T' : TypeId)
    (h : wpList P ops Q (⟨d, .call { callee := .builtin .append, args := #[x, y], argTypes := #[T, T'] }, ty, pos, after, g⟩ :: rest) a w) : wpList P ops Q (⟨d, .call { callee := .builtin .append, args := #[x, y], argTypes := #[T, T'] }, ty, pos, after, g⟩ :: rest) a w := h

/-- only blocks of P have changed -/
structure Chg (P : Nat → Prop) (w w' : World) : Prop where
  os : w'.os = w.os
  tape : w'.tape = w.tape
  output : w'.output = w.output
  size : w.heap.size ≤ w'.heap.size
  block : ∀ k, k < w.heap.size → ¬ P k → w'.heap[k]? = w.heap[k]?
section
variable {P Q : Nat → Prop} {a b c w w' : World}
theorem Chg.refl (P : Nat → Prop) (w : World) : Chg P w w := ⟨rfl, rfl, rfl, Nat.le_refl _, fun _ _ _ => rfl⟩
theorem Chg.trans (h : Chg P a b) (h' : Chg P b c) : Chg P a c := ⟨h'.os.trans h.os, h'.tape.trans h.tape, h'.output.trans h.output, Nat.le_trans h.size h'.size, fun k hk hn => (h'.block k (Nat.lt_of_lt_of_le hk h.size) hn).trans (h.block k hk hn)⟩
theorem Chg.more (h : Chg P a b) (hPQ : ∀ k, k < a.heap.size → P k → Q k) : Chg Q a b := ⟨h.os, h.tape, h.output, h.size, fun k hk hn => h.block k hk (fun hp => hn (hPQ k hk hp))⟩
theorem Chg.of_below {B : Nat} (h : Below B a b) (hP : ∀ k, B ≤ k → P k) : Chg P a b := ⟨h.os, h.tape, h.output, h.size, fun k _ hn => h.block k (by rcases Nat.lt_or_ge k B with h1 | h1; exact h1; exact absurd (hP k h1) hn)⟩
theorem Chg.of_fresh (h : Below a.heap.size a b) : Chg P a b := ⟨h.os, h.tape, h.output, h.size, fun k hk _ => h.block k hk⟩
theorem Chg.below {B : Nat} (h : Chg P a b) (hB : B ≤ a.heap.size) (hP : ∀ k, P k → B ≤ k) : Below B a b := ⟨h.os, h.tape, h.output, h.size, fun k hk => h.block k (Nat.lt_of_lt_of_le hk hB) (fun hp => by have := hP k hp; omega)⟩
theorem Chg.of_grown {row : Option Nat} (h : a.grownBy b row) (hP : ∀ k, row = some k → P k) : Chg P a b := ⟨h.os, h.tape, h.output, h.size, fun k hk hn => h.block k hk (fun e => hn (hP k e.symm))⟩
theorem Chg.drewN (h : Chg P a b) (n : Nat) : Chg P a (b.drewN n) := ⟨h.os, h.tape, h.output, h.size, h.block⟩
theorem Chg.setCell (h : Chg P a b) {p : Addr} (hp : p.block < a.heap.size → P p.block) (u : Value) : Chg P a (b.setCell p u) :=
  ⟨h.os, h.tape, h.output, by have := h.size; simpa using this, fun k hk hn => (heap_setCell_other b p k u (fun e => hn (by subst e; exact hp hk))).trans (h.block k hk hn)⟩
theorem Chg.alloc (h : Chg P a b) (o : Obj) : Chg P a (b.alloc o) := ⟨h.os, h.tape, h.output, by have := h.size; simp; omega, fun k hk hn => (Below.heap_alloc b o k (Nat.lt_of_lt_of_le hk h.size)).trans (h.block k hk hn)⟩
theorem Blk.chg {g T : Nat} {cs : Array Value} (h : Blk w g T cs) (hc : Chg P w w') (hg : ¬ P g) : Blk w' g T cs := (hc.block g h.lt hg).trans h
theorem own_chg {base e size n : Nat} {v : Value} {xs : List Value} (h : w.ownsRow base e size v n xs) (hc : Chg P w w') (hv : ∀ g, v.ownBlock = some g → ¬ P g) : w'.ownsRow base e size v n xs := by
  refine ⟨h.1, ?_⟩
  rcases h.2 with hn | ⟨g, cap, cur, rfl, hb, hgg, rest⟩
  · exact .inl hn
  · exact .inr ⟨g, cap, cur, rfl, hb, (hc.block g (Array.getElem?_eq_some_iff.1 hgg).1 (hv g rfl)).trans hgg, rest⟩
end

/-- cells that lie outside P -/
def RowF (w : World) (P : Nat → Prop) (A : Option Addr) (xs : List Value) : Prop := xs = [] ∨ ∃ ad, A = some ad ∧ ad.block < w.heap.size ∧ ¬ P ad.block ∧ ∀ j u, xs[j]? = some u → w.cell? (ad.add j) = some u
section
variable {P Q : Nat → Prop} {w w' : World} {A : Option Addr} {xs : List Value}
theorem RowF.row (h : RowF w P A xs) : Row w w.heap.size A xs := by
  rcases h with h | ⟨ad, e, hb, _, hc⟩
  · exact .inl h
  · exact .inr ⟨ad, e, hb, hc⟩
theorem RowF.chg (h : RowF w P A xs) (hc : Chg P w w') : RowF w' P A xs := by
  rcases h with h | ⟨ad, e, hb, hn, hcell⟩
  · exact .inl h
  · refine .inr ⟨ad, e, Nat.lt_of_lt_of_le hb hc.size, hn, fun j u hj => ?_⟩
    rw [← hcell j u hj]
    exact World.cell?_of_block (by rw [add_block]; exact hc.block _ hb hn)
theorem RowF.less (h : RowF w P A xs) (hPQ : ∀ k, k < w.heap.size → Q k → P k) : RowF w Q A xs := by
  rcases h with h | ⟨ad, e, hb, hn, hcell⟩
  · exact .inl h
  · exact .inr ⟨ad, e, hb, fun hq => hn (hPQ _ hb hq), hcell⟩
theorem RowF.of_row {B : Nat} (h : Row w B A xs) (hB : B ≤ w.heap.size) (hP : ∀ k, k < B → ¬ P k) : RowF w P A xs := by
  rcases h with h | ⟨ad, e, hb, hcell⟩
  · exact .inl h
  · exact .inr ⟨ad, e, by omega, hP _ hb, hcell⟩
end

/-- a buffer: a row of its own, or a full slice of memory that is not the store's -/
def Buf (w : World) (P : Nat → Prop) (v : Value) (bs : List UInt8) : Prop :=
  (w.ownsRow 0 5 1 v bs.length (bs.map byt) ∧ ∀ k, v.ownBlock = some k → P k) ∨ ∃ A, v = .slice A bs.length bs.length ∧ RowF w P A (bs.map byt) ∧ ∀ k, v.ownBlock = some k → k < w.heap.size ∧ ¬ P k ∧ ∃ cs, Blk w k 5 cs
theorem Buf.form {w : World} {P : Nat → Prop} {v : Value} {bs : List UInt8} (h : Buf w P v bs) : ∃ A c, v = .slice A bs.length c ∧ bs.length ≤ c ∧ Row w w.heap.size A (bs.map byt) := by
  rcases h with ⟨h, _⟩ | ⟨A, rfl, h, _⟩
  · obtain ⟨A, c, rfl⟩ := own_form h
    exact ⟨A, c, rfl, own_cap h, Row.of_own h⟩
  · exact ⟨A, _, rfl, Nat.le_refl _, h.row⟩
theorem Buf.chg {w w' : World} {P Q : Nat → Prop} {v : Value} {bs : List UInt8} (h : Buf w P v bs) (hc : Chg Q w w') (hQ : ∀ k, Q k → P k) (hv : ∀ k, v.ownBlock = some k → ¬ Q k) : Buf w' P v bs := by
  rcases h with ⟨h, hp⟩ | ⟨A, rfl, h, hk⟩
  · exact .inl ⟨own_chg h hc hv, hp⟩
  · exact .inr ⟨A, rfl, h.chg (hc.more fun k _ => hQ k), fun k e => ⟨Nat.lt_of_lt_of_le (hk k e).1 hc.size, (hk k e).2.1, (hk k e).2.2.imp fun _ hb => hb.chg hc (hv k e)⟩⟩
/-- a buffer's own block is of bytes -/
theorem Buf.tag {w : World} {P : Nat → Prop} {v : Value} {bs : List UInt8} (h : Buf w P v bs) {k : Nat} (hk : v.ownBlock = some k) (hPk : P k) : k < w.heap.size ∧ ∃ cs, Blk w k 5 cs := by
  rcases h with ⟨ho, _⟩ | ⟨A0, rfl, _, hn⟩
  · refine ⟨(ho.lt k hk).2, ?_⟩
    rcases ho.2 with ⟨rfl, _⟩ | ⟨g1, c1, cur1, rfl, _, hh1, _⟩
    · simp [Value.ownBlock] at hk
    · simp [Value.ownBlock] at hk
      subst hk
      exact ⟨cur1, hh1⟩
  · exact absurd hPk (hn k hk).2.1
theorem blk_tags {w : World} {k T T' : Nat} {c c' : Array Value} (h : Blk w k T c) (h' : Blk w k T' c') : T = T' := by
  unfold Blk at h h'
  rw [h] at h'
  injection h' with h'
  injection h' with _ h'

/-- append to a buffer -/
theorem run_append_buf {w : World} {P : Nat → Prop} (hP : ∀ k, w.heap.size ≤ k → P k) (tx ty : TypeId) (v : Value) (bs S : List UInt8) (h : Buf w P v bs) (x : Value) (hs : Src Try.prog 1 tx x S.length (S.map byt) w) (h63 : bs.length + S.length ≤ 1000000) :
    ∃ v' w', (Builtin.append_ #[51, tx] ty #[v, x]).run Try.prog w = .ok v' w' ∧ Buf w' P v' (bs ++ S) ∧ Chg (fun k => P k ∧ v.ownBlock = some k) w w' ∧ (∀ k, v'.ownBlock = some k → v.ownBlock = some k ∨ w.heap.size ≤ k) := by
  rcases h with ⟨h, hp⟩ | ⟨A, rfl, h, hn⟩
  · obtain ⟨v', w', hr, h1, h2, h3⟩ := run_append_bytes 0 tx ty v bs.length _ h x S.length _ hs h63 (Nat.zero_le _)
    refine ⟨v', w', hr, .inl ⟨by rw [List.length_append, List.map_append]; exact h1, fun k hk => (h3 k hk).elim (hp k) (hP k)⟩, Chg.of_grown h2 (fun k hk => ⟨hp k hk, hk⟩), h3⟩
  · obtain ⟨i, hi, hz, h1, h2⟩ := info_parts elt_byte.hi
    by_cases hm : S.length = 0
    · have : S = [] := List.eq_nil_of_length_eq_zero hm
      subst this
      refine ⟨_, w, run_append_nought 51 tx ty 5 i elt_byte.ht hi bs.length bs.length (Nat.le_refl _) A x (by rw [h1]; exact hs), ?_, Chg.refl _ _, fun k hk => .inl hk⟩
      rw [List.append_nil]
      exact .inr ⟨A, rfl, h, hn⟩
    · obtain ⟨v', w', hr, g1, g2⟩ := run_append_full (P := Try.prog) (w := w) 51 tx ty 5 i (.int .u8 0) 1 1 elt_byte.ht hi hz h1 h2 rfl (by omega) w.heap.size bs.length A (bs.map byt) (by simp) h.row x S.length (by omega) (S.map byt) hs (by unfold maxLen; omega) (by omega)
      refine ⟨v', w', hr, .inl ⟨?_, fun k hk => hP k (g1.lt k hk).1⟩, Chg.of_grown g2 (fun k hk => by cases hk), fun k hk => .inr (g1.lt k hk).1⟩
      rw [List.length_append, List.map_append]
      exact own_base g1 (Nat.zero_le _)
end Go.Proofs.Ytacpfkkbjibmgaa

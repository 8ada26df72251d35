/-
  A history in memory: layer 8.
-/
import Derived.Test.YtfeaffabminpfaaHiList
import Derived.Test.YtfeaffabminpfaaEdiCopy
import Derived.Shelf.SlMaps.Clone
namespace Go.Proofs.Ytfeaffabminpfaa
open Go.RowKit

/-- only blocks of P are touched -/
structure Tch (P : Nat → Prop) (w w' : World) : Prop where
  os : w'.os = w.os
  tape : w'.tape = w.tape
  output : w'.output = w.output
  size : w.heap.size ≤ w'.heap.size
  block : ∀ k, k < w.heap.size → ¬ P k → w'.heap[k]? = w.heap[k]?
section
variable {P Q : Nat → Prop} {a b c w w' : World}
theorem Tch.refl (P : Nat → Prop) (w : World) : Tch P w w := ⟨rfl, rfl, rfl, Nat.le_refl _, fun _ _ _ => rfl⟩
theorem Tch.trans (h : Tch P a b) (h' : Tch P b c) : Tch P a c := ⟨h'.os.trans h.os, h'.tape.trans h.tape, h'.output.trans h.output, Nat.le_trans h.size h'.size, fun k hk hn => (h'.block k (Nat.lt_of_lt_of_le hk h.size) hn).trans (h.block k hk hn)⟩
theorem Tch.more (h : Tch P a b) (hPQ : ∀ k, P k → Q k) : Tch Q a b := ⟨h.os, h.tape, h.output, h.size, fun k hk hn => h.block k hk (fun hp => hn (hPQ k hp))⟩
theorem Tch.fresh (h : Below a.heap.size a b) : Tch P a b := ⟨h.os, h.tape, h.output, h.size, fun k hk _ => h.block k hk⟩
theorem Tch.below {B : Nat} (h : Tch P a b) (hB : B ≤ a.heap.size) (hP : ∀ k, P k → B ≤ k) : Below B a b := ⟨h.os, h.tape, h.output, h.size, fun k hk => h.block k (Nat.lt_of_lt_of_le hk hB) (fun hp => by have := hP k hp; omega)⟩
theorem Tch.drewN (h : Tch P a b) (n : Nat) : Tch P a (b.drewN n) := ⟨h.os, h.tape, h.output, h.size, h.block⟩
theorem Tch.setCell (h : Tch P a b) {p : Addr} (hp : p.block < a.heap.size → P p.block) (u : Value) : Tch P a (b.setCell p u) :=
  ⟨h.os, h.tape, h.output, by have := h.size; simpa using this, fun k hk hn => (heap_setCell_other b p k u (fun e => hn (by subst e; exact hp hk))).trans (h.block k hk hn)⟩
theorem Tch.grown {i : Nat} (h : a.grownBy b (some i)) : Tch (fun k => k = i) a b := ⟨h.os, h.tape, h.output, h.size, fun k hk hn => h.block k hk (fun e => hn (Option.some.inj e))⟩
theorem Blk.tch {g T : Nat} {cs : Array Value} (h : Blk w g T cs) (hc : Tch P w w') (hg : ¬ P g) : Blk w' g T cs := (hc.block g h.lt hg).trans h
end

/-- cells that lie outside P -/
def RowO (w : World) (P : Nat → Prop) (A : Option Addr) (xs : List Value) : Prop := xs = [] ∨ ∃ ad, A = some ad ∧ ad.block < w.heap.size ∧ ¬ P ad.block ∧ ∀ j u, xs[j]? = some u → w.cell? (ad.add j) = some u
section
variable {P Q : Nat → Prop} {w w' : World} {A : Option Addr} {xs : List Value}
theorem RowO.row (h : RowO w P A xs) : Row w w.heap.size A xs := by
  rcases h with h | ⟨ad, e, hb, _, hc⟩
  · exact .inl h
  · exact .inr ⟨ad, e, hb, hc⟩
theorem RowO.tch (h : RowO w P A xs) (hc : Tch P w w') : RowO w' P A xs := by
  rcases h with h | ⟨ad, e, hb, hn, hcell⟩
  · exact .inl h
  · refine .inr ⟨ad, e, Nat.lt_of_lt_of_le hb hc.size, hn, fun j u hj => ?_⟩
    rw [← hcell j u hj]
    exact World.cell?_of_block (by rw [add_block]; exact hc.block _ hb hn)
theorem RowO.of_row {B : Nat} (h : Row w B A xs) (hB : B ≤ w.heap.size) (hP : ∀ k, k < B → ¬ P k) : RowO w P A xs := by
  rcases h with h | ⟨ad, e, hb, hcell⟩
  · exact .inl h
  · exact .inr ⟨ad, e, by omega, hP _ hb, hcell⟩
theorem RowO.of_rowG {B : Nat} (h : RowG w B A xs) (hP : ∀ k, B ≤ k → ¬ P k) : RowO w P A xs := by
  rcases h with h | ⟨ad, e, hb, hl, hcell⟩
  · exact .inl h
  · exact .inr ⟨ad, e, hl, hP _ hb, hcell⟩
theorem RowO.other (h : RowO w P A xs) (hQ : ∀ k, k < w.heap.size → ¬ Q k) : RowO w Q A xs := by
  rcases h with h | ⟨ad, e, hb, hn, hcell⟩
  · exact .inl h
  · exact .inr ⟨ad, e, hb, hQ _ hb, hcell⟩
end
/-- a text that is held outside P -/
structure TxO (w : World) (P : Nat → Prop) (A : Option Addr) (S : List UInt8) (l : List RunP) : Prop where
  hS : S.length ≤ maxLen
  hf : Fits l
  hl : l.length ≤ maxLen
  row : RowO w P A (flatR l)
section
variable {P Q : Nat → Prop} {w w' : World} {A : Option Addr} {S : List UInt8} {l : List RunP}
theorem TxO.txu (h : TxO w P A S l) : Txu w A S l := ⟨h.hS, h.hf, h.hl, h.row.row⟩
theorem TxO.tch (h : TxO w P A S l) (hc : Tch P w w') : TxO w' P A S l := ⟨h.hS, h.hf, h.hl, h.row.tch hc⟩
theorem TxO.fresh (h : TxO w P A S l) (hb : Below w.heap.size w w') : TxO w' P A S l := h.tch (Tch.fresh hb)
theorem TxO.of_txt {B : Nat} (h : Txt w B A S l) (hB : B ≤ w.heap.size) (hP : ∀ k, k < B → ¬ P k) : TxO w P A S l := ⟨h.hS, h.hf, h.hl, RowO.of_row h.row hB hP⟩
theorem TxO.other (h : TxO w P A S l) (hQ : ∀ k, k < w.heap.size → ¬ Q k) : TxO w Q A S l := ⟨h.hS, h.hf, h.hl, h.row.other hQ⟩
end

/-- the history's two blocks -/
def PB (p b k : Nat) : Prop := k = p ∨ k = b
theorem MapS.keep {w w' : World} {b : Nat} {L : List StP} (h : MapS w b L) (e : w'.heap[b]? = w.heap[b]?) : MapS w' b L := by
  obtain ⟨es, clock, hb, r⟩ := h
  exact ⟨es, clock, e.trans hb, r⟩
theorem MapS.lt {w : World} {b : Nat} {L : List StP} (h : MapS w b L) : b < w.heap.size := World.ownsMap.lt h
theorem MapS.fresh {w w' : World} {b : Nat} {L : List StP} (h : MapS w b L) (hb : Below w.heap.size w w') : MapS w' b L := h.keep (hb.block b h.lt)
theorem MapS.set {w : World} {b : Nat} {L : List StP} (h : MapS w b L) {a : Addr} (ha : b ≠ a.block) (u : Value) : MapS (w.setCell a u) b L := World.ownsMap.setCell h ha u
theorem MapS.drewN {w : World} {b : Nat} {L : List StP} (h : MapS w b L) (n : Nat) : MapS (w.drewN n) b L := h
/-- a history: its variable, its map, the runs in its edits -/
structure Hst (w : World) (p b : Nat) (G : List StP) (dep now last : Int) : Prop where
  blk : Blk w p 67 #[.int .i64 dep, .int .i64 now, .int .i64 last, .map (some b)]
  map : MapS w b G
  eds : ∀ s ∈ G, TxO w (PB p b) s.e.A s.e.S s.e.l ∧ TxO w (PB p b) s.e.B s.e.X s.e.m
section
variable {w w' : World} {p b : Nat} {G : List StP} {dep now last : Int}
theorem Hst.ne (h : Hst w p b G dep now last) : b ≠ p := by
  rintro rfl
  obtain ⟨es, clock, hb, _⟩ := h.map
  have := h.blk
  unfold Blk at this
  rw [this] at hb
  cases hb
theorem Hst.fresh (h : Hst w p b G dep now last) (hb : Below w.heap.size w w') : Hst w' p b G dep now last :=
  ⟨h.blk.below hb h.blk.lt, h.map.fresh hb, fun s hs => ⟨(h.eds s hs).1.fresh hb, (h.eds s hs).2.fresh hb⟩⟩
theorem Hst.drewN (h : Hst w p b G dep now last) (n : Nat) : Hst (w.drewN n) p b G dep now last := h.fresh (below_drewN (Below.refl _ _) n)
/-- the present state is another one -/
theorem Hst.setNow (h : Hst w p b G dep now last) (now' : Int) : Hst (w.setCell ⟨p, 1, none⟩ (.int .i64 now')) p b G dep now' last where
  blk := by have := h.blk.set_ 1 (.int .i64 now'); simpa using this
  map := h.map.set (by exact h.ne) _
  eds := fun s hs => by
    have hc : Tch (PB p b) w (w.setCell ⟨p, 1, none⟩ (.int .i64 now')) := (Tch.refl _ _).setCell (fun _ => Or.inl rfl) _
    exact ⟨(h.eds s hs).1.tch hc, (h.eds s hs).2.tch hc⟩
theorem Hst.setLast (h : Hst w p b G dep now last) (last' : Int) : Hst (w.setCell ⟨p, 2, none⟩ (.int .i64 last')) p b G dep now last' where
  blk := by have := h.blk.set_ 2 (.int .i64 last'); simpa using this
  map := h.map.set (by exact h.ne) _
  eds := fun s hs => by
    have hc : Tch (PB p b) w (w.setCell ⟨p, 2, none⟩ (.int .i64 last')) := (Tch.refl _ _).setCell (fun _ => Or.inl rfl) _
    exact ⟨(h.eds s hs).1.tch hc, (h.eds s hs).2.tch hc⟩
/-- the map is another one -/
theorem Hst.setMap (h : Hst w p b G dep now last) {G' : List StP} (hg : w.grownBy w' (some b)) (hm : MapS w' b G') (he : ∀ s ∈ G', TxO w (PB p b) s.e.A s.e.S s.e.l ∧ TxO w (PB p b) s.e.B s.e.X s.e.m) : Hst w' p b G' dep now last :=
  ⟨h.blk.tch (Tch.grown hg) (fun e => h.ne e.symm), hm, fun s hs =>
    ⟨(he s hs).1.tch ((Tch.grown hg).more fun _ e => Or.inr e), (he s hs).2.tch ((Tch.grown hg).more fun _ e => Or.inr e)⟩⟩
/-- the four cells -/
theorem Hst.cells (h : Hst w p b G dep now last) : w.cell? ⟨p, 0, none⟩ = some (.int .i64 dep) ∧ w.cell? ⟨p, 1, none⟩ = some (.int .i64 now) ∧ w.cell? ⟨p, 2, none⟩ = some (.int .i64 last) ∧ w.cell? ⟨p, 3, none⟩ = some (.map (some b)) := hi_cells h.blk
theorem Hst.var (h : Hst w p b G dep now last) : (w.cell? ⟨p, 0, none⟩ = some (.int .i64 dep) ∧ w.cell? ⟨p, 1, none⟩ = some (.int .i64 now) ∧ w.cell? ⟨p, 2, none⟩ = some (.int .i64 last) ∧ w.cell? ⟨p, 3, none⟩ = some (.map (some b))) ∧ w.frozen? ⟨p, 0, none⟩ = false ∧ w.frozen? ⟨p, 1, none⟩ = false ∧ w.frozen? ⟨p, 2, none⟩ = false ∧ w.frozen? ⟨p, 3, none⟩ = false := hi_var h.blk
end
theorem run_neq_map (w : World) (p : Option Nat) : (binOp .neq 65 (.map p) (.map none)).run Try.prog w = .ok (.bool !p.isNone) w := by
  simp only [binOp]
  simp [show Op.equal 65 (.map p) (.map none) = Op.equalIn (9999 + 1) 65 (.map p) (.map none) from rfl, run_equalIn_map_nil_sl w 9999 65 _ _ p Try.underlying65]
set_option maxHeartbeats 1000000 in
/-- a history that New or Copy made -/
theorem hiUsable_any {w : World} {p b : Nat} {x y z : Value} (h : Blk w p 67 #[x, y, z, .map (some b)]) :
    Calls Try.prog 31 #[.pointer (some ⟨p, 0, none⟩)] w fun e w' => e = .returned (.bool true) ∧ w' = w := by
  obtain ⟨y0, y1, y2, y3⟩ := hi_cells h
  have hq := fun w => run_neq_map w (some b)
  clear h y0 y1 y2
  go_enter Try.func31, Try.ntmps31
  go_wp2_with fail
  go_ret
  exact ⟨rfl, rfl⟩
set_option maxHeartbeats 1000000 in
theorem hiUsable_nil (w : World) : Calls Try.prog 31 #[.pointer none] w fun e w' => e = .returned (.bool false) ∧ w' = w := by
  go_enter Try.func31, Try.ntmps31
  go_wp2_with fail
  go_ret
  exact ⟨rfl, rfl⟩
set_option maxHeartbeats 1000000 in
theorem hiUsable_zero {w : World} {p : Nat} {x y z : Value} (h : Blk w p 67 #[x, y, z, .map none]) :
    Calls Try.prog 31 #[.pointer (some ⟨p, 0, none⟩)] w fun e w' => e = .returned (.bool false) ∧ w' = w := by
  obtain ⟨y0, y1, y2, y3⟩ := hi_cells h
  have hq := fun w => run_neq_map w none
  clear h y0 y1 y2
  go_enter Try.func31, Try.ntmps31
  go_wp2_with fail
  go_ret
  exact ⟨rfl, rfl⟩
set_option maxHeartbeats 1000000 in
theorem hiNow_any {w : World} {p b : Nat} {G : List StP} {dep now last : Int} (h : Hst w p b G dep now last) :
    Calls Try.prog 19 #[.pointer (some ⟨p, 0, none⟩)] w fun e w' => e = .returned (.int .i64 now) ∧ w' = w := by
  obtain ⟨y0, y1, y2, y3⟩ := h.cells
  have H := Lib.hid h.blk
  clear h
  go_enter Try.func19, Try.ntmps19
  go_wp2_with (go_at_call 31; refine (hiUsable_any H.out).mono ?_; rintro e w' ⟨rfl, rfl⟩)
  go_ret
  exact ⟨rfl, rfl⟩
end Go.Proofs.Ytfeaffabminpfaa

/-
  Registers in memory: layer 9.
-/
import Derived.Test.YtcpijnoabipefaaRgName
namespace Go.Proofs.Ytcpijnoabipefaa
open Go.RowKit

/-- registers in memory: P: blocks of which no run lies in any -/
structure Rgs (w : World) (P : Nat → Prop) (g : Nat) (R : List RegP) : Prop where
  ok : OkRs R
  own : P g
  lt : ∀ k, P k → k < w.heap.size
  mem : ∃ Z : List RegV, Z.map RegV.reg = R ∧ Blk w g 53 (.bool true :: flatG Z).toArray ∧ ∀ z ∈ Z, TxO w P z.A z.S z.l
section
variable {P Q : Nat → Prop} {w w' : World} {g g' : Nat} {R : List RegP}
theorem Rgs.fresh (h : Rgs w P g R) (hb : Below w.heap.size w w') : Rgs w' P g R := by
  obtain ⟨Z, h1, h2, h3⟩ := h.mem
  exact ⟨h.ok, h.own, fun k hk => Nat.lt_of_lt_of_le (h.lt k hk) hb.size, Z, h1, h2.below hb h2.lt, fun z hz => (h3 z hz).fresh hb⟩
theorem Rgs.far (h : Rgs w P g R) (hc : Tch (fun k => k = g') w w') (hg : P g') (hne : g' ≠ g) : Rgs w' P g R := by
  obtain ⟨Z, h1, h2, h3⟩ := h.mem
  exact ⟨h.ok, h.own, fun k hk => Nat.lt_of_lt_of_le (h.lt k hk) hc.size, Z, h1, h2.tch hc (fun e => hne e.symm), fun z hz => (h3 z hz).tch (hc.more (fun k e => by rw [e]; exact hg))⟩
/-- beside new blocks -/
theorem Rgs.more (h : Rgs w P g R) (hb : Below w.heap.size w w') (hPQ : ∀ k, P k → Q k) (hQ : ∀ k, Q k → P k ∨ w.heap.size ≤ k) (hl : ∀ k, Q k → k < w'.heap.size) : Rgs w' Q g R := by
  obtain ⟨Z, h1, h2, h3⟩ := h.mem
  refine ⟨h.ok, hPQ _ h.own, hl, Z, h1, h2.below hb h2.lt, fun z hz => ?_⟩
  have hx := h3 z hz
  refine ⟨hx.hS, hx.hf, hx.hl, ?_⟩
  rcases hx.row with e | ⟨ad, e, hlt, hn, hc⟩
  · exact .inl e
  · refine .inr ⟨ad, e, Nat.lt_of_lt_of_le hlt hb.size, fun hq => ?_, fun j u hj => ?_⟩
    · rcases hQ _ hq with h | h
      · exact hn h
      · omega
    · exact (hb.cell (p := ad.add j) (by rw [add_block]; exact hlt)).trans (hc j u hj)
theorem Rgs.tch (h : Rgs w P g R) : g < w.heap.size := h.lt g h.own
end

/-! Words for single operations. -/
section
variable {P : Program}
theorem at_build {ops : Array Oper} {rest : List Oper} {a : Act} {Q : Exit → Act → World → Prop} {w : World} {d : Option Nat} {ty : TypeId} {pos : String} {after : Array Edge} {g : Option (Nat × Bool)} (T : TypeId) (ps : Array (Nat × Operand))
    (h : wpList P ops Q (⟨d, .build T ps, ty, pos, after, g⟩ :: rest) a w) : wpList P ops Q (⟨d, .build T ps, ty, pos, after, g⟩ :: rest) a w := h
theorem at_box {ops : Array Oper} {rest : List Oper} {a : Act} {Q : Exit → Act → World → Prop} {w : World} {d : Option Nat} {ty : TypeId} {pos : String} {after : Array Edge} {g : Option (Nat × Bool)} (T : TypeId) (x : Operand)
    (h : wpList P ops Q (⟨d, .box T x, ty, pos, after, g⟩ :: rest) a w) : wpList P ops Q (⟨d, .box T x, ty, pos, after, g⟩ :: rest) a w := h
theorem wpList_newBox {ops : Array Oper} {rest : List Oper} {o : Oper} {a : Act} {w : World} {Q : Exit → Act → World → Prop} (hg : o.guard = none) (t : TypeId) (x : Operand) (ho : o.op = .box t x) (cells : Array Value) (hx : a.eval x = .agg cells)
    (h : wpList P ops Q rest (a.put o.dst (.pointer (some ⟨w.heap.size, 0, none⟩))) (w.alloc (.cells cells t))) : wpList P ops Q (o :: rest) a w := by
  refine wpList_plain hg fun K hK => ?_
  unfold Oper.wp execOp
  have e : (a.eval x).cells = cells := by rw [hx]; rfl
  simp only [ho, Sem.run_bind, Instr.box, newVar, newRow, run_newObj_alloc, Sem.run_pure, Result.andThen_ok, e]
  exact hK _ _ h
theorem wpList_buildTo {ops : Array Oper} {rest : List Oper} {o : Oper} {a : Act} {Q : Exit → Act → World → Prop} {w : World} (hg : o.guard = none) (t : TypeId) (parts : Array (Nat × Operand)) (ho : o.op = .build t parts)
    (cells : Array Value) (hf : P.built t (parts.map fun (i, x) => (i, a.eval x)).toList = some cells)
    (h : wpList P ops Q rest (a.put o.dst (.agg cells)) w) : wpList P ops Q (o :: rest) a w := by
  refine wpList_build hg t parts ho (by rw [hf]; rfl) ?_
  rw [hf]
  exact h
end

def zeroV : RegV := ⟨false, [], none, [], 0, false⟩
/-- the cells of new registers -/
def newC : Array Value := (.bool true :: flatG (List.replicate 38 zeroV)).toArray
set_option maxRecDepth 100000 in
theorem new_built : Try.prog.built 53 [(0, .bool true)] = some newC := by kernel_rfl
theorem rgs_new (w w' : World) (h : Blk w' w.heap.size 53 newC) : Rgs w' (fun k => k = w.heap.size) w.heap.size newR where
  ok := okRs_new
  own := rfl
  lt := fun k hk => by rw [hk]; exact h.lt
  mem := ⟨List.replicate 38 zeroV, by simp [newR, RegV.reg, zeroV, zeroR], h, fun z hz => by
    rw [(List.mem_replicate.1 hz).2]
    exact ⟨by simp [zeroV], fun r hr => by simp [zeroV] at hr, by simp [zeroV], .inl rfl⟩⟩
attribute [irreducible] newC
set_option maxRecDepth 100000 in
set_option maxHeartbeats 1000000 in
theorem rgNew_any (w : World) : Calls Try.prog 8 #[] w fun e w' => e = .returned (.pointer (some ⟨w.heap.size, 0, none⟩)) ∧ Rgs w' (fun k => k = w.heap.size) w.heap.size newR ∧ Below w.heap.size w w' ∧ w'.heap.size = w.heap.size + 1 := by
  go_enter Try.func8, Try.ntmps8
  go_wp2_with (first
    | ((with_reducible refine at_build 53 _ ?_); refine wpList_buildTo rfl 53 _ rfl newC (by simp only [List.map_toArray, List.map_cons, List.map_nil]; exact new_built) ?_)
    | ((with_reducible refine at_box 53 _ ?_); refine wpList_newBox rfl 53 _ rfl newC rfl ?_))
  go_ret
  exact ⟨rfl, rgs_new w _ (Blk.new _ _ _), (Below.refl _ _).alloc (Nat.le_refl _) _, by simp⟩

theorem rg_cell0 {P : Nat → Prop} {w : World} {g : Nat} {R : List RegP} (h : Rgs w P g R) : w.cell? ⟨g, 0, none⟩ = some (.bool true) := by
  obtain ⟨Z, h1, h2, h3⟩ := h.mem
  have := h2.cell 0
  simpa using this
set_option maxHeartbeats 1000000 in
theorem rgUsable_any {P : Nat → Prop} {w : World} {g : Nat} {R : List RegP} (h : Rgs w P g R) : Calls Try.prog 26 #[.pointer (some ⟨g, 0, none⟩)] w fun e w' => e = .returned (.bool true) ∧ w' = w := by
  have y0 := rg_cell0 h
  clear h
  go_enter Try.func26, Try.ntmps26
  go_wp2_with fail
  go_ret
  exact ⟨rfl, rfl⟩
set_option maxHeartbeats 1000000 in
theorem rgUsable_nil (w : World) : Calls Try.prog 26 #[.pointer none] w fun e w' => e = .returned (.bool false) ∧ w' = w := by
  go_enter Try.func26, Try.ntmps26
  go_wp2_with fail
  go_ret
  exact ⟨rfl, rfl⟩
set_option maxHeartbeats 1000000 in
theorem rgUsable_zero {w : World} {g : Nat} (y0 : w.cell? ⟨g, 0, none⟩ = some (.bool false)) : Calls Try.prog 26 #[.pointer (some ⟨g, 0, none⟩)] w fun e w' => e = .returned (.bool false) ∧ w' = w := by
  go_enter Try.func26, Try.ntmps26
  go_wp2_with fail
  go_ret
  exact ⟨rfl, rfl⟩
end Go.Proofs.Ytcpijnoabipefaa

/-
  Words of our own for slices: 'Elt' (an element type's facts), 'Row' (a slice's cells), pushing one element onto an owned row; laws whose answer is true close by 'law_post'.
-/
import Derived.WalkKit
import Derived.WalkSpells
import Derived.WalkLawsBesides
import Derived.ProofKit
import Derived.OpenShut
import Derived.Deep.Draws
import Derived.Lib.Hide
namespace Go.Proofs.YtgmeamefbfgbgaaDoor
open Go.RowKit
set_option maxRecDepth 100000

/-- what an append asks of the slice's and the element's type -/
structure Elt (P : Program) (t e : TypeId) (z : Value) (size bytes : Nat) : Prop where
  ht : P.underlying t = some (.slice e)
  hi : (P.info? e).map (fun i => (i.zero, i.size, i.bytes)) = some (some z, size, bytes)
  hz : z.cells.size = size
  pos : 0 < size

section
variable {P : Program}

theorem own_below {w w' : World} {base e size n : Nat} {v : Value} {xs : List Value} (h : w.ownsRow base e size v n xs) (hg : w.grownBy w' v.ownBlock) (hb : base ≤ w.heap.size) : Below base w w' :=
  (Below.refl base w).grown hg hb fun k hk => (h.lt k hk).1

theorem own_form {w : World} {base e size n : Nat} {v : Value} {xs : List Value} (h : w.ownsRow base e size v n xs) : ∃ A c, v = .slice A n c := by
  rcases h.2 with ⟨rfl, rfl⟩ | ⟨g, cap, cur, rfl, _⟩
  · exact ⟨_, _, rfl⟩
  · exact ⟨_, _, rfl⟩

theorem own_keep {w w' : World} {base e size n B : Nat} {v : Value} {xs : List Value} (h : w.ownsRow base e size v n xs) (hb : Below B w w') (hB : w.heap.size ≤ B) : w'.ownsRow base e size v n xs := by
  refine ⟨h.1, ?_⟩
  have hl := h.lt
  rcases h.2 with h | ⟨g, cap, cur, rfl, hg, hh, h⟩
  · exact .inl h
  · have := hl g rfl
    exact .inr ⟨g, cap, cur, rfl, hg, (hb.block g (by omega)).trans hh, h⟩
theorem own_base {w : World} {base base' e size n : Nat} {v : Value} {xs : List Value} (h : w.ownsRow base e size v n xs) (hb : base' ≤ base) : w.ownsRow base' e size v n xs := by
  refine ⟨h.1, ?_⟩
  rcases h.2 with h | ⟨g, cap, cur, hv, hg, h⟩
  · exact .inl h
  · exact .inr ⟨g, cap, cur, hv, by omega, h⟩

/-- one element more: append(v, x), x in a block of its own -/
theorem wpList_push {ops : Array Oper} {rest : List Oper} {o : Oper} {a : Act} {Q : Exit → Act → World → Prop} {w0 : World} (hgd : o.guard = none) (s x : Operand) (t : TypeId)
    (ho : o.op = .call { callee := .builtin .append, args := #[s, x], argTypes := #[t, t] })
    (base : Nat) (e : TypeId) (z : Value) (bytes : Nat) (E : Elt P t e z 1 bytes) (bt : TypeId)
    (v : Value) (n : Nat) (xs : List Value) (hs : a.eval s = v) (hown : w0.ownsRow base e 1 v n xs)
    (u : Value) (hx : a.eval x = .slice (some ⟨w0.heap.size, 0, none⟩) 1 1) (hu : u.oneCell' = true)
    (h63 : n + 1 ≤ maxLen) (hbytes : (n + 1) * bytes ≤ 140737488355328) (hbase : base ≤ w0.heap.size)
    (h : ∀ v' w', w'.ownsRow base e 1 v' (n + 1) (xs ++ [u]) → Below base w0 w' → wpList P ops Q rest (a.put o.dst v') w') : wpList P ops Q (o :: rest) a (w0.alloc (.cells #[u] bt)) := by
  obtain ⟨i, hi, hz, h1, h2⟩ := info_parts E.hi
  have ho' := hown.alloc (.cells #[u] bt)
  have hb' : Below base w0 (w0.alloc (.cells #[u] bt)) := (Below.refl base w0).alloc hbase _
  refine wpList_append_own _ hgd s x t ho base e i z 1 bytes E.ht hi hz h1 h2 E.hz E.pos v n xs hs ho' ⟨w0.heap.size, 0, none⟩ 1 1 [u] hx (by simp) ?_ ?_ h63 hbytes (Nat.le_trans hbase hb'.size) ?_
  · intro j y hj
    match j, hj with
    | 0, hj => simp at hj; subst hj; simp [Addr.add]
  · intro y hy; simp at hy; subst hy; exact hu
  · intro v' w' h3 h4 _
    exact h v' w' h3 (hb'.trans (own_below ho' h4 (Nat.le_trans hbase hb'.size)))
end

theorem below_drewN {B : Nat} {a w : World} (h : Below B a w) (n : Nat) : Below B a (w.drewN n) := ⟨h.os, h.tape, h.output, h.size, h.block⟩
/-- one element more, of so many cells: append(v, x), x in a block of its own -/
theorem wpList_pushN {P : Program} {ops : Array Oper} {rest : List Oper} {o : Oper} {a : Act} {Q : Exit → Act → World → Prop} {w0 : World} (hgd : o.guard = none) (s x : Operand) (t : TypeId)
    (ho : o.op = .call { callee := .builtin .append, args := #[s, x], argTypes := #[t, t] })
    (base : Nat) (e : TypeId) (z : Value) (size bytes : Nat) (E : Elt P t e z size bytes) (bt : TypeId)
    (v : Value) (n : Nat) (xs : List Value) (hs : a.eval s = v) (hown : w0.ownsRow base e size v n xs)
    (us : List Value) (gx : Nat) (hgx : gx = w0.heap.size) (hx : a.eval x = .slice (some ⟨gx, 0, none⟩) 1 1) (hl : us.length = size) (hu : ∀ u ∈ us, u.oneCell' = true)
    (h63 : n + 1 ≤ maxLen) (hbytes : (n + 1) * bytes ≤ 140737488355328) (hbase : base ≤ w0.heap.size)
    (h : ∀ v' w', w'.ownsRow base e size v' (n + 1) (xs ++ us) → Below base w0 w' → (∀ g, g < w0.heap.size → v.ownBlock ≠ some g → w'.heap[g]? = w0.heap[g]?) → wpList P ops Q rest (a.put o.dst v') w') : wpList P ops Q (o :: rest) a (w0.alloc (.cells us.toArray bt)) := by
  subst hgx
  obtain ⟨i, hi, hz, h1, h2⟩ := info_parts E.hi
  have ho' := hown.alloc (.cells us.toArray bt)
  have hb' : Below base w0 (w0.alloc (.cells us.toArray bt)) := (Below.refl base w0).alloc hbase _
  refine wpList_append_own _ hgd s x t ho base e i z size bytes E.ht hi hz h1 h2 E.hz E.pos v n xs hs ho' ⟨w0.heap.size, 0, none⟩ 1 1 us hx (by simp [hl]) ?_ hu h63 hbytes (Nat.le_trans hbase hb'.size) ?_
  · intro j y hj
    have hadd : (⟨w0.heap.size, 0, none⟩ : Addr).add j = ⟨w0.heap.size, j, none⟩ := by unfold Addr.add; split <;> simp_all
    rw [hadd, cell_of_row _ _ j us.toArray bt (0, 0) (heap_alloc_new w0 _)]
    simpa using hj
  · intro v' w' h3 h4 _
    refine h v' w' h3 (hb'.trans (own_below ho' h4 (Nat.le_trans hbase hb'.size))) fun g hg hne => ?_
    rw [h4.block g (by simp; omega) (fun e => hne e.symm)]
    exact Below.heap_alloc _ _ _ hg

theorem add_block (a : Addr) (n : Nat) : (a.add n).block = a.block := by unfold Addr.add; split <;> rfl

/-- the cells of a slice: none, or they lie in a row from its address on, in a block below B -/
def Row (w : World) (B : Nat) (A : Option Addr) (xs : List Value) : Prop :=
  xs = [] ∨ ∃ ad, A = some ad ∧ ad.block < B ∧ ∀ j u, xs[j]? = some u → w.cell? (ad.add j) = some u

section
variable {w w' : World} {B B' : Nat} {A : Option Addr} {xs : List Value}
theorem Row.at_ {k : Nat} {u : Value} (h : Row w B A xs) (hu : xs[k]? = some u) : ∃ ad, A = some ad ∧ ad.block < B ∧ w.cell? (ad.add k) = some u := by
  rcases h with rfl | ⟨ad, e, hb, hc⟩
  · simp at hu
  · exact ⟨ad, e, hb, hc k u hu⟩
theorem Row.map_at {α : Type} {f : α → Value} {zs : List α} {k : Nat} (h : Row w B A (zs.map f)) (hk : k < zs.length) : ∃ ad, A = some ad ∧ ad.block < B ∧ w.cell? (ad.add k) = some (f zs[k]) :=
  h.at_ (by simp [hk])
theorem Row.keep (h : Row w B A xs) (hk : ∀ p : Addr, p.block < B → w'.cell? p = w.cell? p) : Row w' B A xs := by
  rcases h with h | ⟨ad, e, hb, hc⟩
  · exact .inl h
  · exact .inr ⟨ad, e, hb, fun j u hu => (hk _ (by rw [add_block]; exact hb)).trans (hc j u hu)⟩
theorem Row.more (h : Row w B A xs) (hB : B ≤ B') : Row w B' A xs := by
  rcases h with h | ⟨ad, e, hb, hc⟩
  · exact .inl h
  · exact .inr ⟨ad, e, by omega, hc⟩
theorem Row.below (h : Row w B A xs) (hb : Below B w w') : Row w' B A xs := h.keep fun _ hp => hb.cell hp
theorem Row.drew (h : Row w B A xs) : Row w.drew B A xs := h
theorem Row.alloc (h : Row w B A xs) (hB : B ≤ w.heap.size) (o : Obj) : Row (w.alloc o) B A xs := h.below ((Below.refl _ _).alloc hB o)
theorem Row.nil : Row w B none [] := .inl rfl
theorem Row.drewN (h : Row w B A xs) (k : Nat) : Row (w.drewN k) B A xs := h
theorem Row.of_own {base e size n c : Nat} (h : w.ownsRow base e size (.slice A n c) n xs) : Row w w.heap.size A xs := by
  rcases A with _ | ad
  · rcases h.2 with ⟨_, hn⟩ | ⟨g, cap, cur, hv, _⟩
    · left; exact List.eq_nil_of_length_eq_zero (by rw [h.1, hn]; simp)
    · cases hv
  · right
    have hl := h.lt ad.block rfl
    rcases h.2 with ⟨hv, _⟩ | ⟨g, cap, cur, hv, _⟩
    · cases hv
    · injection hv with hv1
      injection hv1 with hv1
      subst hv1
      exact ⟨_, rfl, hl.2, h.cells (g := g) rfl⟩
end

/-- a block known whole -/
def Blk (w : World) (g : Nat) (t : TypeId) (cs : Array Value) : Prop := w.heap[g]? = some (.cells cs t (0, 0))
section
variable {w w' : World} {g : Nat} {t : TypeId} {cs : Array Value}
theorem Blk.lt (h : Blk w g t cs) : g < w.heap.size := by
  rcases Nat.lt_or_ge g w.heap.size with hlt | hge
  · exact hlt
  · unfold Blk at h; rw [Array.getElem?_eq_none hge] at h; cases h
theorem Blk.cell (h : Blk w g t cs) (i : Nat) : w.cell? ⟨g, i, none⟩ = cs[i]? := cell_of_row w g i cs t (0, 0) h
theorem Blk.frozen (h : Blk w g t cs) (i : Nat) : w.frozen? ⟨g, i, none⟩ = false := frozen_of_row w g i cs t h
theorem Blk.new (w : World) (t : TypeId) (cs : Array Value) : Blk (w.alloc (.cells cs t)) w.heap.size t cs := heap_alloc_new w _
theorem Blk.alloc (h : Blk w g t cs) (o : Obj) : Blk (w.alloc o) g t cs := (Below.heap_alloc w o g h.lt).trans h
theorem Blk.drew (h : Blk w g t cs) : Blk w.drew g t cs := h
theorem Blk.set_ (h : Blk w g t cs) (i : Nat) (u : Value) : Blk (w.setCell ⟨g, i, none⟩ u) g t (cs.setIfInBounds i u) := heap_setCell_same w g i cs t u h
theorem Blk.far (h : Blk w g t cs) {p : Addr} (hp : g ≠ p.block) (u : Value) : Blk (w.setCell p u) g t cs := (heap_setCell_other w p g u hp).trans h
theorem Blk.below {B : Nat} (h : Blk w g t cs) (hb : Below B w w') (hg : g < B) : Blk w' g t cs := (hb.block g hg).trans h
theorem Blk.setRow (h : Blk w g t cs) (cs' : Array Value) : Blk (w.setRow g cs') g t cs' := setRow_heap w g cs cs' t (0, 0) h
theorem Blk.rowFar (h : Blk w g t cs) {g' : Nat} (hg : g ≠ g') (cs' : Array Value) : Blk (w.setRow g' cs') g t cs := (setRow_other w g' g cs' hg).trans h
end
theorem Blk.drewN {w : World} {g T : Nat} {cs : Array Value} (h : Blk w g T cs) (n : Nat) : Blk (w.drewN n) g T cs := h
theorem cell_first {w : World} {g T : Nat} {u v : Value} (h : Blk w g T #[u, v]) : w.cell? ⟨g, 0, none⟩ = some u := by have := h.cell 0; simpa using this
theorem below_setRow {B g : Nat} {a w : World} (h : Below B a w) (hg : B ≤ g) (cs : Array Value) : Below B a (w.setRow g cs) :=
  h.trans ⟨rfl, rfl, rfl, by simp, fun k hk => setRow_other w g k cs (by omega)⟩


theorem below_of_grown {w w' : World} {B g : Nat} (hg : w.grownBy w' (some g)) (hB : B ≤ w.heap.size) (h : B ≤ g) : Below B w w' :=
  (Below.refl B w).grown hg hB fun k hk => by injection hk with hk; omega
theorem Blk.grown {w w' : World} {g g' : Nat} {t : TypeId} {cs : Array Value} (h : Blk w g t cs) (hg : w.grownBy w' (some g')) (hne : g ≠ g') : Blk w' g t cs :=
  (hg.block g h.lt (fun e => hne (by injection e))).trans h

section
variable {P : Program}
/- guards: they say which operation stands next, and change nothing -/
theorem at_alloc {ops : Array Oper} {rest : List Oper} {a : Act} {Q : Exit → Act → World → Prop} {w : World} {ty : TypeId} {pos : String} {after : Array Edge} {g : Option (Nat × Bool)} (d : Nat) (T : TypeId)
    (h : wpList P ops Q (⟨some d, .alloc T, ty, pos, after, g⟩ :: rest) a w) : wpList P ops Q (⟨some d, .alloc T, ty, pos, after, g⟩ :: rest) a w := h
theorem at_store {ops : Array Oper} {rest : List Oper} {a : Act} {Q : Exit → Act → World → Prop} {w : World} {d : Option Nat} {ty : TypeId} {pos : String} {after : Array Edge} {g : Option (Nat × Bool)} (T : TypeId) (x y : Operand)
    (h : wpList P ops Q (⟨d, .store T x y, ty, pos, after, g⟩ :: rest) a w) : wpList P ops Q (⟨d, .store T x y, ty, pos, after, g⟩ :: rest) a w := h
theorem at_load {ops : Array Oper} {rest : List Oper} {a : Act} {Q : Exit → Act → World → Prop} {w : World} {d : Option Nat} {ty : TypeId} {pos : String} {after : Array Edge} {g : Option (Nat × Bool)} (T : TypeId) (x : Operand)
    (h : wpList P ops Q (⟨d, .load T x, ty, pos, after, g⟩ :: rest) a w) : wpList P ops Q (⟨d, .load T x, ty, pos, after, g⟩ :: rest) a w := h
theorem at_convert {ops : Array Oper} {rest : List Oper} {a : Act} {Q : Exit → Act → World → Prop} {w : World} {d : Option Nat} {ty : TypeId} {pos : String} {after : Array Edge} {g : Option (Nat × Bool)} (S T : TypeId) (x : Operand)
    (h : wpList P ops Q (⟨d, .convert S T x, ty, pos, after, g⟩ :: rest) a w) : wpList P ops Q (⟨d, .convert S T x, ty, pos, after, g⟩ :: rest) a w := h
/-- a new variable of an array's type -/
theorem wpList_newRow {ops : Array Oper} {rest : List Oper} {o : Oper} {a : Act} {Q : Exit → Act → World → Prop} {w : World} (hgd : o.guard = none) (T : TypeId) (ho : o.op = .alloc T)
    (zs : Array Value) (hz : (P.info? T).map (fun i => i.zero) = some (some (.agg zs)))
    (h : ∀ w' g, w.heap.size ≤ g → g < w'.heap.size → Blk w' g T zs → Below w.heap.size w w' → wpList P ops Q rest (a.put o.dst (.pointer (some ⟨g, 0, none⟩))) w') : wpList P ops Q (o :: rest) a w := by
  refine wpList_plain hgd fun K hK => ?_
  have hk := hK _ _ (h (w.alloc (.cells zs T)) w.heap.size (Nat.le_refl _) (by simp) (Blk.new _ _ _) ((Below.refl _ _).alloc (Nat.le_refl _) _))
  obtain ⟨i, hi, hiz⟩ := Option.map_eq_some_iff.1 hz
  have hzv : (zeroValue T).run P w = .ok (.agg zs) w := by simp [zeroValue, typeInfo, hi, hiz]
  have hnv : (newVar T (.agg zs)).run P w = .ok ⟨w.heap.size, 0, none⟩ (w.alloc (.cells zs T)) := rfl
  unfold Oper.wp execOp
  simp only [ho, Instr.alloc, hzv, hnv, Sem.run_bind, Sem.run_pure, Result.andThen_ok]
  exact hk
/-- a whole array stored into a variable of its type -/
theorem wpList_setRow {ops : Array Oper} {rest : List Oper} {o : Oper} {a : Act} {Q : Exit → Act → World → Prop} {w : World} (hgd : o.guard = none) (ty : TypeId) (x y : Operand) (ho : o.op = .store ty x y)
    (g : Nat) (cells : Array Value) (hx : a.eval x = .pointer (some ⟨g, 0, none⟩)) (hy : a.eval y = .agg cells)
    (t : TypeId) (old : Array Value) (hg : Blk w g t old) (hi : (P.info? ty).map (·.size) = some cells.size)
    (hold : old.size = cells.size) (h1 : cells.all (·.oneCell') = true)
    (h : ∀ w', Blk w' g t cells → w.grownBy w' (some g) → wpList P ops Q rest (a.put o.dst undef) w') : wpList P ops Q (o :: rest) a w :=
  wpList_store_row hgd ty x y ho g cells hx hy t old hg hi hold h1
    (h _ (hg.setRow cells) ⟨rfl, rfl, rfl, by simp, fun k _ hk => setRow_other w g k cells (fun e => hk (by rw [e]))⟩)
end

/-- a byte's cell -/
def byt (b : UInt8) : Value := .int .u8 (b.toNat : Int)

/-- the cells of a block that was just made -/
theorem row_newL (w : World) (t : TypeId) (l : List Value) : Row (w.alloc (.cells l.toArray t)) (w.heap.size + 1) (some ⟨w.heap.size, 0, none⟩) l := by
  right
  refine ⟨_, rfl, by simp, ?_⟩
  intro j u hj
  have hadd : (⟨w.heap.size, 0, none⟩ : Addr).add j = ⟨w.heap.size, j, none⟩ := by unfold Addr.add; split <;> simp_all
  rw [hadd, cell_of_row _ _ j l.toArray t (0, 0) (heap_alloc_new w _)]
  simpa using hj
theorem byt_nat {n : Nat} {i : Int} (hi : i = n) (h : n < 256) : byt (UInt8.ofNat n) = .int .u8 i := by
  unfold byt
  rw [UInt8.toNat_ofNat', Nat.mod_eq_of_lt h, hi]

/-- string(b) of bytes that lie in a row -/
theorem str_of_row {P : Program} {w : World} {B c : Nat} {A : Option Addr} {l : List UInt8} (src dst e : TypeId) (hs : P.underlying src = some (.slice e)) (he : P.underlying e = some (.int .u8)) (hd : P.underlying dst = some .string)
    (h : Row w B A (l.map byt)) : (convert src dst (.slice A l.length c)).run P w = .ok (.string ⟨l.toArray⟩) w := by
  by_cases hl : l = []
  · subst hl
    rcases A with _ | ad
    · rw [run_convert_bytes_string w src dst e none _ c hs he hd]; simp [Conv.bytesToString]; rfl
    · exact run_convert_bytes_back w src dst e ad c [] hs he hd (fun j hj => absurd hj (by simp))
  · rcases h with h | ⟨ad, rfl, _, hc⟩
    · simp at h; exact absurd h hl
    · exact run_convert_bytes_back w src dst e ad c l hs he hd (fun j hj => hc j _ (by simp [hj, byt]))

/-- string([]byte{..}): a block that was just made -/
theorem str_new {P : Program} (w : World) (src dst e bt : TypeId) (hs : P.underlying src = some (.slice e)) (he : P.underlying e = some (.int .u8)) (hd : P.underlying dst = some .string)
    (bs : List UInt8) (cells : List Value) (h : bs.map byt = cells) (n c : Nat) (hn : n = bs.length) :
    (convert src dst (.slice (some ⟨w.heap.size, 0, none⟩) n c)).run P (w.alloc (.cells cells.toArray bt)) = .ok (.string ⟨bs.toArray⟩) (w.alloc (.cells cells.toArray bt)) := by
  subst hn
  exact str_of_row src dst e hs he hd (by rw [h]; exact row_newL w bt cells)

section
variable {H : Type} {enc : TypeId × Value → H} {P : Program}
/-- the arguments read behind the call as they read before it -/
theorem trodAll_stay (hl : laidOutB P = true) {W W' : World} (hb : Below W.heap.size W W') : ∀ (ts : List TypeId) (vs : List Value) (ds : List (DataW H)) (ps : List MemPlace),
    (∀ t ∈ ts, P.readableRec t = true ∧ t < P.types.size) → DataW.TrodAll enc P W 0 (fun _ => true) true ts vs ds ps → (∀ x ∈ ps, x.block < W.heap.size) →
    DataW.TrodAll enc P W' 0 (fun b => decide (b < W.heap.size)) true ts vs ds ps := by
  intro ts
  induction ts with
  | nil =>
    intro vs ds ps _ h _
    obtain ⟨rfl, rfl, rfl⟩ := Go.ChangeShapes.trodAll_nil h
    exact Go.ChangeShapes.trodAll_mk0
  | cons t ts ih =>
    intro vs ds ps hr h hp
    obtain ⟨v, vs', d, ds', p, q, rfl, rfl, rfl, h0, h1⟩ := Go.ChangeShapes.trodAll_cons h
    have ht := hr t (by simp)
    exact ⟨p, q, Below.trod hl ht.1 ht.2 h0 hb (fun x hx => hp x (by simp [hx])), ih vs' ds' q (fun t' ht' => hr t' (by simp [ht'])) h1 (fun x hx => hp x (by simp [hx])), rfl⟩

/-- a law that returned true and left all old memory alone -/
theorem law_post {f : Func} {s : ChangeSpec} {W W' : World} {args : Array Value} {ds gs : List (DataW H)} {before : List MemPlace} (hl : laidOutB P = true) (hv : s.vars = [])
    (hr : ∀ t ∈ f.params.toList, P.readableRec t = true ∧ t < P.types.size)
    (hres : ∀ (b : Nat) (sp : Nat → Bool) (hd : Bool), DataW.TrodAll enc P W' b sp hd f.resultTypes.toList ((Value.bool true).resultList f.resultTypes.size) (s.fn H (ds ++ gs)).results [])
    (hargs : (s.fn H (ds ++ gs)).args = ds) (hvars : (s.fn H (ds ++ gs)).vars = [])
    (hW : DataW.Whole enc P f.params.toList s.vars false W args.toList ds gs before) (hb : Below W.heap.size W W') : s.post enc P f false true false false W args (.bool true) W' := by
  have hW' := hW
  have hlt := hW.lt
  obtain ⟨p, q, hA, hV, rfl, hfz, hnd⟩ := hW
  have hq : q = [] ∧ gs = [] := by
    rw [hv] at hV
    obtain ⟨rfl, rfl⟩ := Go.ChangeShapes.trodVars_none hV
    exact ⟨rfl, rfl⟩
  obtain ⟨rfl, rfl⟩ := hq
  refine ⟨ds, [], p ++ [], [], p, [], hW', hres _ _ _, ?_, ?_, hb.frame _, fun h => by cases h⟩
  · rw [hargs]; exact trodAll_stay hl hb _ _ _ _ hr hA (fun x hx => hlt x (by simp [hx]))
  · rw [hvars, hv]; rfl
end

/-- an argument of kind uint64, as a number -/
theorem nat_u64 {x : Int} (h : (Lit.int .u64 x).wf = true) : ∃ a : Nat, x = (a : Int) ∧ a < 18446744073709551616 := by
  have hx : 0 ≤ x ∧ x ≤ 18446744073709551615 := by simpa [Lit.wf, IntKind.min, IntKind.max, IntKind.signed, IntKind.bits] using h
  exact ⟨x.toNat, by omega, by omega⟩
theorem bound_i64 {x : Int} (h : (Lit.int .i64 x).wf = true) : -9223372036854775808 ≤ x ∧ x ≤ 9223372036854775807 := by
  simpa [Lit.wf, IntKind.min, IntKind.max, IntKind.signed, IntKind.bits] using h
theorem bound_u8 {x : Int} (h : (Lit.int .u8 x).wf = true) : 0 ≤ x ∧ x ≤ 255 := by
  simpa [Lit.wf, IntKind.min, IntKind.max, IntKind.signed, IntKind.bits] using h

section
open Go.ChangeShapes Go.WideShapes
variable {H : Type} {enc : TypeId × Value → H} {P : Program} {W : World} {base : Nat}
/-- a string argument, as a list of bytes -/
theorem open_text {r : Reach} {b0 : Nat} {t : TypeId} {v : Value} {d : DataW H} {ps : List MemPlace} (ht : P.underlying t = some .string) (hval : Value.okWide P W r b0 t v) (h : DataW.Trod enc P W 0 (fun _ => true) true t v d ps) :
    ∃ l : List UInt8, v = .string ⟨l.toArray⟩ ∧ l.length ≤ maxLen := by
  obtain ⟨s, rfl, _, _, hs⟩ := Go.ChangeMaps.open_string ht hval h
  refine ⟨s.data.toList, by simp, ?_⟩
  rw [Array.length_toList]; exact hs

/-- an argument that is a slice of integers, nil or not -/
theorem open_row {r : Reach} {b0 : Nat} {t e : TypeId} {k : IntKind} {v : Value} {d : DataW H} {ps : List MemPlace} (ht : P.underlying t = some (.slice e)) (he : P.underlying e = some (.int k)) (hc : P.cellsOf e = 1)
    (hval : Value.okWide P W r b0 t v) (h : DataW.Trod enc P W 0 (fun _ => true) true t v d ps) :
    ∃ (A : Option Addr) (c : Nat) (zs : List Int), v = .slice A zs.length c ∧ zs.length ≤ maxLen ∧ (∀ z ∈ zs, (Lit.int k z).wf = true) ∧ Row W W.heap.size A (zs.map (Value.int k)) := by
  obtain ⟨a0, len, cap, rfl⟩ := okWide_slice ht hval
  obtain ⟨fuel, hf⟩ := h
  rcases open_ints ht he hc hf with ⟨hcs, _⟩ | ⟨a, len', cap', zs, hcs, _, hl, hm, hz, _, hcell, hwf⟩
  · simp [Value.cells] at hcs
    obtain ⟨rfl, rfl, rfl⟩ := hcs
    exact ⟨none, 0, [], rfl, by simp, by simp, Row.nil⟩
  · simp [Value.cells] at hcs
    obtain ⟨rfl, rfl, rfl⟩ := hcs
    have hz' : zs.length = cap := hz
    have hlen : (zs.take len).length = len := by rw [List.length_take]; omega
    refine ⟨some a, cap, zs.take len, by rw [hlen], by rw [hlen]; omega, fun z hz1 => hwf z (List.mem_of_mem_take hz1), ?_⟩
    by_cases h0 : len = 0
    · left; subst h0; simp
    · right
      have h1 := hcell 0 (by omega)
      have hb := Go.World.block_lt_of_cell? _ _ h1
      rw [add_block] at hb
      refine ⟨a, rfl, hb, fun j u hj => ?_⟩
      rw [List.getElem?_map] at hj
      have hj' : j < len := by
        rcases Nat.lt_or_ge j len with h | h
        · exact h
        · rw [List.getElem?_eq_none (by rw [hlen]; exact h)] at hj; cases hj
      rw [List.getElem?_take_of_lt hj', List.getElem?_eq_getElem (by omega)] at hj
      simp at hj
      rw [hcell j (by omega), ← hj]
      simp [List.getD, List.getElem?_eq_getElem (show j < zs.length by omega)]

def u64v (n : Nat) : Value := .int .u64 (n : Int)
def intz (n : Int) : Value := .int .i64 n
theorem open_row_u64 {r : Reach} {b0 : Nat} {t e : TypeId} {v : Value} {d : DataW H} {ps : List MemPlace} (ht : P.underlying t = some (.slice e)) (he : P.underlying e = some (.int .u64)) (hc : P.cellsOf e = 1)
    (hval : Value.okWide P W r b0 t v) (h : DataW.Trod enc P W 0 (fun _ => true) true t v d ps) :
    ∃ (A : Option Addr) (c : Nat) (zs : List Nat), v = .slice A zs.length c ∧ zs.length ≤ maxLen ∧ (∀ z ∈ zs, z < 18446744073709551616) ∧ Row W W.heap.size A (zs.map u64v) := by
  obtain ⟨A, c, zs, rfl, hl, hwf, hr⟩ := open_row ht he hc hval h
  have hz : ∀ z ∈ zs, ((z.toNat : Nat) : Int) = z ∧ z.toNat < 18446744073709551616 := fun z hz => by
    obtain ⟨a, rfl, ha⟩ := nat_u64 (hwf z hz)
    exact ⟨by simp, by simpa using ha⟩
  refine ⟨A, c, zs.map Int.toNat, by simp, by simpa using hl, fun z hz1 => ?_, ?_⟩
  · obtain ⟨y, hy, rfl⟩ := List.mem_map.1 hz1
    exact (hz y hy).2
  · rw [List.map_map, List.map_congr_left (g := Value.int .u64) (fun z hz1 => by simp only [Function.comp, u64v]; rw [(hz z hz1).1])]
    exact hr
theorem open_row_i64 {r : Reach} {b0 : Nat} {t e : TypeId} {v : Value} {d : DataW H} {ps : List MemPlace} (ht : P.underlying t = some (.slice e)) (he : P.underlying e = some (.int .i64)) (hc : P.cellsOf e = 1)
    (hval : Value.okWide P W r b0 t v) (h : DataW.Trod enc P W 0 (fun _ => true) true t v d ps) :
    ∃ (A : Option Addr) (c : Nat) (zs : List Int), v = .slice A zs.length c ∧ zs.length ≤ maxLen ∧ (∀ z ∈ zs, -9223372036854775808 ≤ z ∧ z ≤ 9223372036854775807) ∧ Row W W.heap.size A (zs.map intz) := by
  obtain ⟨A, c, zs, rfl, hl, hwf, hr⟩ := open_row ht he hc hval h
  exact ⟨A, c, zs, rfl, hl, fun z hz => bound_i64 (hwf z hz), hr⟩
theorem bound_i32 {x : Int} (h : (Lit.int .i32 x).wf = true) : -2147483648 ≤ x ∧ x ≤ 2147483647 := by
  simpa [Lit.wf, IntKind.min, IntKind.max, IntKind.signed, IntKind.bits] using h
theorem open_row_i32 {r : Reach} {b0 : Nat} {t e : TypeId} {v : Value} {d : DataW H} {ps : List MemPlace} (ht : P.underlying t = some (.slice e)) (he : P.underlying e = some (.int .i32)) (hc : P.cellsOf e = 1)
    (hval : Value.okWide P W r b0 t v) (h : DataW.Trod enc P W 0 (fun _ => true) true t v d ps) :
    ∃ (A : Option Addr) (c : Nat) (zs : List Int), v = .slice A zs.length c ∧ zs.length ≤ maxLen ∧ (∀ z ∈ zs, -2147483648 ≤ z ∧ z ≤ 2147483647) ∧ Row W W.heap.size A (zs.map (Value.int .i32)) := by
  obtain ⟨A, c, zs, rfl, hl, hwf, hr⟩ := open_row ht he hc hval h
  exact ⟨A, c, zs, rfl, hl, fun z hz => bound_i32 (hwf z hz), hr⟩
end
end Go.Proofs.YtgmeamefbfgbgaaDoor

/-
  Stores that were left, and what the copies do not touch: layer 5.
-/
import Derived.Test.YtacpfkkbjibmgaaPieApart
import Derived.Test.YtacpfkkbjibmgaaPiePlay
import Derived.Maps.AppendAt
namespace Go.Proofs.Ytacpfkkbjibmgaa
open Go.RowKit

theorem elt_ptr : Elt Try.prog 46 24 (.pointer none) 1 8 := ⟨Try.underlying46, by kernel_rfl, rfl, by decide⟩
theorem elt_txt : Elt Try.prog 47 28 (.agg #[.string ⟨#[]⟩, .slice none 0 0]) 2 40 := ⟨Try.underlying47, by kernel_rfl, rfl, by decide⟩

/-- one element more, of so many cells, and where the row lies -/
theorem wpList_pushA {P : Program} {ops : Array Oper} {rest : List Oper} {o : Oper} {a : Act} {Q : Exit → Act → World → Prop} {w0 : World} (hgd : o.guard = none) (s x : Operand) (t : TypeId)
    (ho : o.op = .call { callee := .builtin .append, args := #[s, x], argTypes := #[t, t] })
    (base : Nat) (e : TypeId) (z : Value) (size bytes : Nat) (E : Elt P t e z size bytes) (bt : TypeId)
    (v : Value) (n : Nat) (xs : List Value) (hs : a.eval s = v) (hown : w0.ownsRow base e size v n xs)
    (us : List Value) (gx : Nat) (hgx : gx = w0.heap.size) (hx : a.eval x = .slice (some ⟨gx, 0, none⟩) 1 1) (hl : us.length = size) (hu : ∀ u ∈ us, u.oneCell' = true)
    (h63 : n + 1 ≤ maxLen) (hbytes : (n + 1) * bytes ≤ 140737488355328) (hbase : base ≤ w0.heap.size)
    (h : ∀ v' w', w'.ownsRow base e size v' (n + 1) (xs ++ us) → Chg (fun k => v.ownBlock = some k) w0 w' → (∀ k, v'.ownBlock = some k → v.ownBlock = some k ∨ w0.heap.size ≤ k) → wpList P ops Q rest (a.put o.dst v') w') : wpList P ops Q (o :: rest) a (w0.alloc (.cells us.toArray bt)) := by
  subst hgx
  obtain ⟨i, hi, hz, h1, h2⟩ := info_parts E.hi
  have ho' := hown.alloc (.cells us.toArray bt)
  have hb' : Below base w0 (w0.alloc (.cells us.toArray bt)) := (Below.refl base w0).alloc hbase _
  have hc0 : Chg (fun k => v.ownBlock = some k) w0 (w0.alloc (.cells us.toArray bt)) := (Chg.refl _ w0).alloc _
  refine wpList_append_own_at _ hgd s x t ho base e i z size bytes E.ht hi hz h1 h2 E.hz E.pos v n xs hs ho' ⟨w0.heap.size, 0, none⟩ 1 1 us hx (by simp [hl]) ?_ hu h63 hbytes (Nat.le_trans hbase hb'.size) ?_
  · intro j y hj
    have hadd : (⟨w0.heap.size, 0, none⟩ : Addr).add j = ⟨w0.heap.size, j, none⟩ := by unfold Addr.add; split <;> simp_all
    rw [hadd, cell_of_row _ _ j us.toArray bt (0, 0) (heap_alloc_new w0 _)]
    simpa using hj
  · intro v' w' h3 h4 _ h5
    refine h v' w' h3 (hc0.trans (Chg.of_grown h4 (fun k hk => hk))) fun k hk => ?_
    rcases h5 with h5 | h5
    · exact .inl (h5 ▸ hk)
    · rw [h5] at hk
      injection hk with hk
      exact .inr (by rw [← hk]; exact hb'.size |> fun h => by simp)

/-- a store that was left, in the world in which it was left, and the text that it had -/
structure OldR where
  w : World
  O : Nat → Prop
  g : Nat
  S : List UInt8
  b : List Nat
  A : Option Addr
  c : Nat
/-- the blocks that may have changed since -/
def OldR.P (r : OldR) (k : Nat) : Prop := r.w.heap.size ≤ k ∨ (¬ r.O k ∧ ∃ T cs, Blk r.w k T cs ∧ (T = 24 ∨ T = 28))
structure OldR.Good (r : OldR) (wr : World) : Prop where
  sto : Sto r.w r.O r.g 4096 r.S r.b
  txt : r.w.ownsRow 0 58 2 (.slice r.A (pack r.b).length r.c) (pack r.b).length (flatR (pack r.b))
  chg : Chg r.P r.w wr
theorem OldR.Good.step {r : OldR} {wr w' : World} {Q : Nat → Prop} (h : r.Good wr) (hc : Chg Q wr w') (hQ : ∀ k, Q k → r.P k) : r.Good w' := ⟨h.sto, h.txt, h.chg.trans (hc.more (fun k _ hk => hQ k hk))⟩
theorem OldR.Good.now {r : OldR} {wr : World} (h : r.Good wr) : Sto wr r.O r.g 4096 r.S r.b :=
  h.sto.chgT h.chg fun k hk hlt => by
    rcases hk with hk | ⟨h1, T, cs, h2, h3⟩
    · omega
    · exact ⟨h1, T, cs, h2, by rcases h3 with rfl | rfl <;> decide⟩
theorem OldR.Good.text {r : OldR} {wr : World} (h : r.Good wr) : Txt wr wr.heap.size r.A r.S (pack r.b) := by
  have hl := h.sto.lens
  have hf := h.sto.fits
  refine ⟨by unfold maxLen; omega, hf.1, by unfold maxLen; omega, Row.of_own (own_chg h.txt h.chg (fun k hk hp => ?_))⟩
  have hlt := h.txt.lt k hk
  rcases hp with hp | ⟨_, T, cs, h2, h3⟩
  · omega
  · rcases h3 with rfl | rfl
    · exact own_not h.txt hk h2 (by decide) rfl
    · exact own_not h.txt hk h2 (by decide) rfl

def ptrs (L : List OldR) : List Value := L.map (fun r => .pointer (some ⟨r.g, 0, none⟩))
def txts (L : List OldR) : List Value := L.flatMap (fun r => [.string ⟨r.S.toArray⟩, .slice r.A (pack r.b).length r.c])
theorem ptrs_push (L : List OldR) (r : OldR) : ptrs (L ++ [r]) = ptrs L ++ [.pointer (some ⟨r.g, 0, none⟩)] := by simp [ptrs]
theorem txts_push (L : List OldR) (r : OldR) : txts (L ++ [r]) = txts L ++ [.string ⟨r.S.toArray⟩, .slice r.A (pack r.b).length r.c] := by simp [txts]
theorem ptrs_at (L : List OldR) (k : Nat) (hk : k < L.length) : (ptrs L)[k]? = some (.pointer (some ⟨L[k].g, 0, none⟩)) := by simp [ptrs, hk]
theorem txts_at (L : List OldR) (k : Nat) (hk : k < L.length) : (txts L)[k * 2]? = some (.string ⟨L[k].S.toArray⟩) ∧ (txts L)[k * 2 + 1]? = some (.slice L[k].A (pack L[k].b).length L[k].c) := by
  induction L generalizing k with
  | nil => simp at hk
  | cons r l ih =>
    cases k with
    | zero => exact ⟨rfl, rfl⟩
    | succ k =>
      have := ih k (by simpa using hk)
      simp only [txts, List.flatMap_cons, List.getElem_cons_succ] at *
      rw [show (k + 1) * 2 = (k * 2) + 2 by omega, show k * 2 + 2 + 1 = (k * 2 + 1) + 2 by omega]
      exact this

/-- the stores that were left, and the two rows that the law keeps of them -/
structure Many (w1 wr : World) (L : List OldR) (v4 : Value) (n4 : Nat) (x4 : List Value) (v5 : Value) (n5 : Nat) (x5 : List Value) : Prop where
  good : ∀ r ∈ L, r.Good wr
  own4 : wr.ownsRow w1.heap.size 24 1 v4 n4 x4
  own5 : wr.ownsRow w1.heap.size 28 2 v5 n5 x5
  p4 : ∀ r ∈ L, ∀ k, v4.ownBlock = some k → r.P k
  p5 : ∀ r ∈ L, ∀ k, v5.ownBlock = some k → r.P k
  ord : L.Pairwise (fun r r' => ∀ k, r'.O k → r.w.heap.size ≤ k)
  low : ∀ r ∈ L, ∀ k, r.O k → w1.heap.size ≤ k
section
variable {w1 wr w' : World} {L : List OldR} {v4 v5 : Value} {n4 n5 : Nat} {x4 x5 : List Value}
theorem Many.fresh (h : Many w1 wr L v4 n4 x4 v5 n5 x5) (hb : Below wr.heap.size wr w') : Many w1 w' L v4 n4 x4 v5 n5 x5 :=
  ⟨fun r hr => (h.good r hr).step (Chg.of_below hb (fun _ hk => hk)) (fun _ hk => .inl (Nat.le_trans (h.good r hr).chg.size hk)), own_keep h.own4 hb (Nat.le_refl _), own_keep h.own5 hb (Nat.le_refl _), h.p4, h.p5, h.ord, h.low⟩
theorem Many.put {O : Nat → Prop} (h : Many w1 wr L v4 n4 x4 v5 n5 x5) (hc : Chg O wr w') (hO : ∀ r ∈ L, ∀ k, O k → r.w.heap.size ≤ k) (h4 : ∀ k, v4.ownBlock = some k → ¬ O k) (h5 : ∀ k, v5.ownBlock = some k → ¬ O k) : Many w1 w' L v4 n4 x4 v5 n5 x5 :=
  ⟨fun r hr => (h.good r hr).step hc (fun k hk => .inl (hO r hr k hk)), own_chg h.own4 hc h4, own_chg h.own5 hc h5, h.p4, h.p5, h.ord, h.low⟩
theorem Many.app4 {v4' : Value} {n' : Nat} {x' : List Value} (h : Many w1 wr L v4 n4 x4 v5 n5 x5) (ho : w'.ownsRow w1.heap.size 24 1 v4' n' x') (hc : Chg (fun k => v4.ownBlock = some k) wr w') (hn : ∀ k, v4'.ownBlock = some k → v4.ownBlock = some k ∨ wr.heap.size ≤ k) : Many w1 w' L v4' n' x' v5 n5 x5 :=
  ⟨fun r hr => (h.good r hr).step hc (fun k hk => h.p4 r hr k hk), ho, own_chg h.own5 hc (fun k hk h4 => own_apart h.own4 h.own5 (by decide) k h4 hk), fun r hr k hk => (hn k hk).elim (h.p4 r hr k) (fun hk => .inl (Nat.le_trans (h.good r hr).chg.size hk)), h.p5, h.ord, h.low⟩
theorem Many.app5 {v5' : Value} {n' : Nat} {x' : List Value} (h : Many w1 wr L v4 n4 x4 v5 n5 x5) (ho : w'.ownsRow w1.heap.size 28 2 v5' n' x') (hc : Chg (fun k => v5.ownBlock = some k) wr w') (hn : ∀ k, v5'.ownBlock = some k → v5.ownBlock = some k ∨ wr.heap.size ≤ k) : Many w1 w' L v4 n4 x4 v5' n' x' :=
  ⟨fun r hr => (h.good r hr).step hc (fun k hk => h.p5 r hr k hk), own_chg h.own4 hc (fun k hk h5 => own_apart h.own4 h.own5 (by decide) k hk h5), ho, h.p4, fun r hr k hk => (hn k hk).elim (h.p5 r hr k) (fun hk => .inl (Nat.le_trans (h.good r hr).chg.size hk)), h.ord, h.low⟩
theorem own_blk_tag {w : World} {base e size n k : Nat} {v : Value} {xs : List Value} (h : w.ownsRow base e size v n xs) (hk : v.ownBlock = some k) : ∃ cs, Blk w k e cs := own_tag h hk
theorem Many.push {O : Nat → Prop} {g : Nat} {S : List UInt8} {b : List Nat} {A : Option Addr} {c : Nat} (h : Many w1 wr L v4 n4 x4 v5 n5 x5) (hs : Sto wr O g 4096 S b) (ht : wr.ownsRow 0 58 2 (.slice A (pack b).length c) (pack b).length (flatR (pack b)))
    (hO : ∀ r ∈ L, ∀ k, O k → r.w.heap.size ≤ k) (hl : ∀ k, O k → w1.heap.size ≤ k) (h4 : ∀ k, v4.ownBlock = some k → ¬ O k) (h5 : ∀ k, v5.ownBlock = some k → ¬ O k) : Many w1 wr (L ++ [⟨wr, O, g, S, b, A, c⟩]) v4 n4 x4 v5 n5 x5 := by
  refine ⟨fun r hr => ?_, h.own4, h.own5, fun r hr k hk => ?_, fun r hr k hk => ?_, ?_, fun r hr k hk => ?_⟩
  · rcases List.mem_append.1 hr with hr | hr
    · exact h.good r hr
    · obtain rfl := List.mem_singleton.1 hr
      exact ⟨hs, ht, Chg.refl _ _⟩
  · rcases List.mem_append.1 hr with hr | hr
    · exact h.p4 r hr k hk
    · obtain rfl := List.mem_singleton.1 hr
      obtain ⟨cs, hb⟩ := own_blk_tag h.own4 hk
      exact .inr ⟨h4 k hk, _, cs, hb, .inl rfl⟩
  · rcases List.mem_append.1 hr with hr | hr
    · exact h.p5 r hr k hk
    · obtain rfl := List.mem_singleton.1 hr
      obtain ⟨cs, hb⟩ := own_blk_tag h.own5 hk
      exact .inr ⟨h5 k hk, _, cs, hb, .inr rfl⟩
  · rw [List.pairwise_append]
    refine ⟨h.ord, List.pairwise_singleton _ _, fun r hr r' hr' => ?_⟩
    obtain rfl := List.mem_singleton.1 hr'
    exact hO r hr
  · rcases List.mem_append.1 hr with hr | hr
    · exact h.low r hr k hk
    · obtain rfl := List.mem_singleton.1 hr
      exact hl k hk
theorem Many.low4 (h : Many w1 wr L v4 n4 x4 v5 n5 x5) (hb : Below w1.heap.size w1 wr) (hc : Chg (fun k => v4.ownBlock = some k) wr w') : Below w1.heap.size w1 w' := hb.trans (hc.below hb.size (fun k hk => (h.own4.lt k hk).1))
theorem Many.low5 (h : Many w1 wr L v4 n4 x4 v5 n5 x5) (hb : Below w1.heap.size w1 wr) (hc : Chg (fun k => v5.ownBlock = some k) wr w') : Below w1.heap.size w1 w' := hb.trans (hc.below hb.size (fun k hk => (h.own5.lt k hk).1))
end
end Go.Proofs.Ytacpfkkbjibmgaa

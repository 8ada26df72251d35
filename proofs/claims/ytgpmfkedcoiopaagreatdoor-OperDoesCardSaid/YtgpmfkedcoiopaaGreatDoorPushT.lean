/-
  A row grows by one element, and where it then lies: layers 8 and on.
-/
import Derived.Test.YtgpmfkedcoiopaaGreatDoorTouch
import Derived.Maps.AppendAt
namespace Go.Proofs.YtgpmfkedcoiopaaGreatDoor
set_option maxRecDepth 100000
open Go.RowKit

/-- one element more, and where the row lies -/
theorem wpList_pushT {P : Program} {ops : Array Oper} {rest : List Oper} {o : Oper} {a : Act} {Q : Exit → Act → World → Prop} {w0 : World} (hgd : o.guard = none) (s x : Operand) (t : TypeId)
    (ho : o.op = .call { callee := .builtin .append, args := #[s, x], argTypes := #[t, t] })
    (base : Nat) (e : TypeId) (z : Value) (size bytes : Nat) (E : Elt P t e z size bytes) (bt : TypeId)
    (v : Value) (n : Nat) (xs : List Value) (hs : a.eval s = v) (hown : w0.ownsRow base e size v n xs)
    (us : List Value) (gx : Nat) (hgx : gx = w0.heap.size) (hx : a.eval x = .slice (some ⟨gx, 0, none⟩) 1 1) (hl : us.length = size) (hu : ∀ u ∈ us, u.oneCell' = true)
    (h63 : n + 1 ≤ maxLen) (hbytes : (n + 1) * bytes ≤ 140737488355328) (hbase : base ≤ w0.heap.size)
    (h : ∀ v' w', w'.ownsRow base e size v' (n + 1) (xs ++ us) → Tch (fun k => v.ownBlock = some k) w0 w' → (∀ k, v'.ownBlock = some k → v.ownBlock = some k ∨ w0.heap.size ≤ k) → wpList P ops Q rest (a.put o.dst v') w') : wpList P ops Q (o :: rest) a (w0.alloc (.cells us.toArray bt)) := by
  subst hgx
  obtain ⟨i, hi, hz, h1, h2⟩ := info_parts E.hi
  have ho' := hown.alloc (.cells us.toArray bt)
  have hb' : Below base w0 (w0.alloc (.cells us.toArray bt)) := (Below.refl base w0).alloc hbase _
  have hc0 : Tch (fun k => v.ownBlock = some k) w0 (w0.alloc (.cells us.toArray bt)) := Tch.fresh ((Below.refl _ w0).alloc (Nat.le_refl _) _)
  refine wpList_append_own_at _ hgd s x t ho base e i z size bytes E.ht hi hz h1 h2 E.hz E.pos v n xs hs ho' ⟨w0.heap.size, 0, none⟩ 1 1 us hx (by simp [hl]) ?_ hu h63 hbytes (Nat.le_trans hbase hb'.size) ?_
  · intro j y hj
    have hadd : (⟨w0.heap.size, 0, none⟩ : Addr).add j = ⟨w0.heap.size, j, none⟩ := by unfold Addr.add; split <;> simp_all
    rw [hadd, cell_of_row _ _ j us.toArray bt (0, 0) (heap_alloc_new w0 _)]
    simpa using hj
  · intro v' w' h3 h4 _ h5
    refine h v' w' h3 (hc0.trans ⟨h4.os, h4.tape, h4.output, h4.size, fun k hk hn => h4.block k hk (fun e => hn e.symm)⟩) fun k hk => ?_
    rcases h5 with h5 | h5
    · exact .inl (h5 ▸ hk)
    · rw [h5] at hk
      injection hk with hk
      exact .inr (by rw [← hk]; exact hb'.size |> fun h => by simp)
end Go.Proofs.YtgpmfkedcoiopaaGreatDoor

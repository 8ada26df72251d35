/-
  append of whatever yields cells to an owned row, as a step of a region that draws its order: layer 6.
-/
import Derived.Test.YtlipkfaofmailaaPieMem
namespace Go.Proofs.Ytlipkfaofmailaa
open Go.RowKit

section
variable {P : Program} {w : World}
theorem step_append_own {ops : Array Oper} {o : Oper} {a : Act} {K : Act → World → Prop} {Q : Exit → Act → World → Prop} {G : Prop}
    (hg : o.guard = none) (d x : Operand) (t : TypeId) (hop : o.op = Op.call { callee := Callee.builtin Builtin.append, args := #[d, x], argTypes := #[t, t] })
    (base : Nat) (e : TypeId) (z : Value) (bytes : Nat) (E : Elt P t e z 1 bytes) (v : Value) (n : Nat) (xs : List Value) (hd : a.eval d = v) (hown : w.ownsRow base e 1 v n xs)
    (u : Value) (m : Nat) (news : List Value) (hx : a.eval x = u) (hs : Src P 1 t u m news w)
    (h63 : n + m ≤ maxLen) (hbytes : (n + m) * bytes ≤ 140737488355328) (hbase : base ≤ w.heap.size)
    (hK : ∀ v' w', w'.ownsRow base e 1 v' (n + m) (xs ++ news) → Below base w w' → K (a.put o.dst v') w') :
    if Region.wanted o (yielded ops a.tmps) = true then Oper.wp P o a w K Q else G := by
  obtain ⟨i, hi, hz, h1, h2⟩ := info_parts E.hi
  obtain ⟨v', w', hr, ho, hgr, _⟩ := run_append_any (P := P) base t t o.type e i z 1 bytes E.ht hi hz h1 h2 E.hz v n xs hown u m news hs h63 hbytes hbase
  exact step_append_eq hg d x t t hop v u hd hx hr (hK v' w' ho (own_below hown hgr hbase))
end
end Go.Proofs.Ytlipkfaofmailaa

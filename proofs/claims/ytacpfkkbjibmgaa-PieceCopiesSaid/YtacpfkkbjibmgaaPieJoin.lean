/-
  The landed store: joined: layer 5.
-/
import Derived.Test.YtacpfkkbjibmgaaPieText
namespace Go.Proofs.Ytacpfkkbjibmgaa
open Go.RowKit

/-- a new piece behind those of a block that has room -/
theorem wpList_pushRoom {P : Program} {ops : Array Oper} {rest : List Oper} {o : Oper} {a : Act} {Q : Exit → Act → World → Prop} {w0 : World} (hgd : o.guard = none) (s x : Operand) (t : TypeId)
    (ho : o.op = .call { callee := .builtin .append, args := #[s, x], argTypes := #[t, t] })
    (e : TypeId) (z : Value) (size bytes : Nat) (E : Elt P t e z size bytes) (bt : TypeId)
    (g m cap : Nat) (ad : Addr) (had : (⟨g, 0, none⟩ : Addr) = ad) (L : List Value) (T : TypeId) (hs : a.eval s = .slice (some ad) m cap) (hg : Blk w0 g T L.toArray)
    (us : List Value) (hx : a.eval x = .slice (some ⟨w0.heap.size, 0, none⟩) 1 1) (hl : us.length = size) (hu : ∀ u ∈ us, u.oneCell' = true)
    (hroom : m + 1 ≤ cap) (hfit : (m + 1) * size ≤ L.length)
    (h : ∀ w', Blk w' g T (splice L (m * size) us).toArray → w0.grownBy w' (some g) → wpList P ops Q rest (a.put o.dst (.slice (some ad) (m + 1) cap)) w') : wpList P ops Q (o :: rest) a (w0.alloc (.cells us.toArray bt)) := by
  subst had
  obtain ⟨i, hi, hz, h1, h2⟩ := info_parts E.hi
  have hsrc : Src P i.size t (.slice (some ⟨w0.heap.size, 0, none⟩) 1 1) 1 us (w0.alloc (.cells us.toArray bt)) := by
    rw [h1]
    refine Src.ofSlice _ E.ht ⟨w0.heap.size, 0, none⟩ 1 1 us (by rw [hl, Nat.one_mul]) (fun j u hj => ?_) hu
    have hadd : (⟨w0.heap.size, 0, none⟩ : Addr).add j = ⟨w0.heap.size, j, none⟩ := by unfold Addr.add; split <;> simp_all
    rw [hadd, cell_of_row _ _ j us.toArray bt (0, 0) (heap_alloc_new w0 _)]
    simpa using hj
  have hfit' : m * size + us.length ≤ L.length := by rw [hl]; rw [Nat.add_mul, Nat.one_mul] at hfit; exact hfit
  have hr := run_append_room_row (P := P) t t o.type e i E.ht hi g m cap L T (hg.alloc _) _ 1 us hsrc hroom (by rw [h1]; exact hfit')
  refine wpList_append_eq hgd s x t t ho _ _ hs hx hr ?_
  rw [h1]
  exact h _ ((hg.alloc _).setRow _) (grown_trans (World.grownBy_alloc w0 _ _) (grown_setRow _ _ _))

/-- the state of the block while neighbours are joined -/
structure Joins (ps : List PieP) (L0 : List Value) (k : Nat) (L : List Value) : Prop where
  len : L.length = L0.length
  front : L.take ((joinP (ps.take k)).length * 3) = flatP (joinP (ps.take k))
  back : L.drop (k * 3) = L0.drop (k * 3)
theorem Joins.get {ps : List PieP} {L0 L : List Value} {k : Nat} (h : Joins ps L0 k L) (h0 : L0.take (ps.length * 3) = flatP ps) (hk : k < ps.length) : L[k * 3]? = some (.int .i64 (ps[k].1 : Nat)) ∧ L[k * 3 + 1]? = some (.int .i64 (ps[k].2.1 : Nat)) ∧ L[k * 3 + 2]? = some (.int .u64 (ps[k].2.2 : Nat)) := by
  have key : ∀ j, j < 3 → L[k * 3 + j]? = (flatP ps)[k * 3 + j]? := fun j hj => by
    rw [← h0, List.getElem?_take_of_lt (by omega), ← List.getElem?_drop, h.back, List.getElem?_drop]
  obtain ⟨a, b, c⟩ := flatP_get ps k hk
  exact ⟨by have := key 0 (by omega); rw [Nat.add_zero] at this; rw [this]; exact a, by rw [key 1 (by omega)]; exact b, by rw [key 2 (by omega)]; exact c⟩
theorem Joins.last {ps : List PieP} {L0 L : List Value} {k : Nat} {acc : List PieP} {q : PieP} (h : Joins ps L0 k L) (e : joinP (ps.take k) = acc ++ [q]) : L[acc.length * 3]? = some (.int .i64 (q.1 : Nat)) ∧ L[acc.length * 3 + 1]? = some (.int .i64 (q.2.1 : Nat)) ∧ L[acc.length * 3 + 2]? = some (.int .u64 (q.2.2 : Nat)) := by
  have hf := h.front
  rw [e] at hf
  have hl : (acc ++ [q]).length = acc.length + 1 := by simp
  obtain ⟨a, b, c⟩ := flatP_get (acc ++ [q]) acc.length (by simp)
  rw [show (acc ++ [q])[acc.length]'(by simp) = q by simp] at a b c
  rw [← hf, hl] at a b c
  rw [List.getElem?_take_of_lt (by omega)] at a b c
  exact ⟨a, b, c⟩
theorem Joins.push {ps : List PieP} {L0 L : List Value} {k m : Nat} (h : Joins ps L0 k L) (hk : k < ps.length) (hm : (joinP (ps.take k)).length = m) (hmk : m ≤ k) (hlen : (k + 1) * 3 ≤ L0.length) (e : joinStep (joinP (ps.take k)) ps[k] = joinP (ps.take k) ++ [ps[k]]) :
    Joins ps L0 (k + 1) (splice L (m * 3) (flatP [ps[k]])) := by
  have hj : joinP (ps.take (k + 1)) = joinP (ps.take k) ++ [ps[k]] := by rw [List.take_succ_eq_append_getElem hk, joinP_snoc, e]
  have hl3 : (flatP [ps[k]]).length = 3 := by rw [flatP_len]; rfl
  have hll := h.len
  refine ⟨by rw [length_splice _ _ _ (by rw [hl3]; omega), h.len], ?_, ?_⟩
  · rw [hj, List.length_append, hm, flatP_append]
    show (splice L (m * 3) (flatP [ps[k]])).take ((m + 1) * 3) = _
    rw [show (m + 1) * 3 = m * 3 + (flatP [ps[k]]).length by rw [hl3]; omega, take_splice_all _ _ _ (by rw [hl3]; omega), ← hm, h.front]
  · have hb := h.back
    unfold splice
    have e1 : (L.take (m * 3) ++ (flatP [ps[k]] ++ L.drop (m * 3 + (flatP [ps[k]]).length))) = (L.take (m * 3) ++ flatP [ps[k]]) ++ L.drop (m * 3 + 3) := by rw [hl3, List.append_assoc]
    rw [e1, List.drop_append, List.drop_of_length_le (by rw [List.length_append, List.length_take, hl3]; omega), List.nil_append, List.drop_drop, List.length_append, List.length_take, hl3]
    have e2 : L.drop ((k + 1) * 3) = L0.drop ((k + 1) * 3) := by
      rw [show (k + 1) * 3 = k * 3 + 3 by omega, ← List.drop_drop, hb, List.drop_drop]
    rw [← e2]
    congr 1
    omega
theorem Joins.merge {ps : List PieP} {L0 L : List Value} {k : Nat} {acc : List PieP} {q : PieP} (h : Joins ps L0 k L) (hk : k < ps.length) (e : joinP (ps.take k) = acc ++ [q]) (hmk : acc.length + 1 ≤ k) (e2 : joinStep (joinP (ps.take k)) ps[k] = acc ++ [(q.1, q.2.1 + ps[k].2.1, q.2.2)]) :
    Joins ps L0 (k + 1) (L.set (acc.length * 3 + 1) (.int .i64 ((q.2.1 + ps[k].2.1 : Nat) : Int))) := by
  have hj : joinP (ps.take (k + 1)) = acc ++ [(q.1, q.2.1 + ps[k].2.1, q.2.2)] := by rw [List.take_succ_eq_append_getElem hk, joinP_snoc, e2]
  have hf := h.front
  rw [e] at hf
  refine ⟨by rw [List.length_set, h.len], ?_, ?_⟩
  · rw [hj, List.length_append]
    rw [List.length_append] at hf
    rw [show ([(q.1, q.2.1 + ps[k].2.1, q.2.2)] : List PieP).length = [q].length from rfl, List.take_set, hf, flatP_append, flatP_append, List.set_append, if_neg (by rw [flatP_len]; omega), flatP_len, show acc.length * 3 + 1 - acc.length * 3 = 1 by omega]
    rfl
  · rw [List.drop_set_of_lt (by omega), show (k + 1) * 3 = k * 3 + 3 by omega, ← List.drop_drop, h.back, List.drop_drop]
end Go.Proofs.Ytacpfkkbjibmgaa

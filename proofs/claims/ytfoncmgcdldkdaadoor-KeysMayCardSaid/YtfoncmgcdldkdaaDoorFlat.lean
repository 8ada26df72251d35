/-
  What a listed package-level variable of plain data (numbers, bools, strings, structs and arrays of them) holds when a law begins: the reading of such data has one preimage.
-/
import Derived.Test.YtfoncmgcdldkdaaDoorWords
import Derived.Deep.DeepHandedRow
import Derived.Lib.LaidTab
namespace Go.Proofs.YtfoncmgcdldkdaaDoor
open Go.RowKit Go.Lib

/-- plain data: its cells are told by its reading -/
def flatB (P : Program) : Nat → TypeId → Bool
  | 0, _ => false
  | n + 1, t => match P.underlying t with
    | some .bool => true
    | some (.int _) => true
    | some .string => true
    | some (.struct fs) => fs.toList.all (fun f => flatB P n f.type) && (List.range (P.cellsOf t)).all fun i => fs.toList.any fun f => decide (f.offset ≤ i) && decide (i < f.offset + P.cellsOf f.type)
    | some (.array m e) => flatB P n e && decide (P.cellsOf t ≤ m * P.cellsOf e)
    | _ => false
section
variable {H : Type} {enc : TypeId × Value → H} {P : Program} {w w' : World} {base base' : Nat} {sp sp' : Nat → Bool} {held held' : Bool}
theorem trod_array {m : Nat} {t e : TypeId} {fuel : Nat} {cs : List Value} {x : DataW H × List MemPlace} (ht : P.underlying t = some (.array m e)) (h : DataW.trod enc P w base sp held fuel t cs = some x) :
    ∃ (xs : List (DataW H × List MemPlace)) (n : Nat), x.1 = .agg (xs.map (·.1)) ∧ cs.length = P.cellsOf t ∧ xs.length = m ∧ ∀ i, i < m → DataW.trod enc P w base sp held n e ((cs.drop (i * P.cellsOf e)).take (P.cellsOf e)) = xs[i]? := by
  cases fuel with
  | zero => simp [DataW.trod] at h
  | succ n =>
    simp only [DataW.trod, ht] at h
    split at h
    · next hl =>
      obtain ⟨xs, hm, rfl⟩ := Option.map_eq_some_iff.1 h
      have hxl : xs.length = m := by simpa using mapM_length hm
      refine ⟨xs, n, rfl, hl, hxl, fun i hi => ?_⟩
      obtain ⟨b, hb, hf⟩ := mapM_at hm i i (by simp [hi])
      rw [hb, hf]
    · cases h
theorem seg_eq {cs cs' : List Value} {o c i : Nat} (h : (cs.drop o).take c = (cs'.drop o).take c) (h1 : o ≤ i) (h2 : i < o + c) : cs[i]? = cs'[i]? := by
  have := congrArg (·[i - o]?) h
  simp only [List.getElem?_take_of_lt (show i - o < c by omega), List.getElem?_drop] at this
  rwa [show o + (i - o) = i by omega] at this
theorem flat_inj : ∀ (k : Nat) (t : TypeId), flatB P k t = true → ∀ (f f' : Nat) (cs cs' : List Value) (d : DataW H) (p p' : List MemPlace),
    DataW.trod enc P w base sp held f t cs = some (d, p) → DataW.trod enc P w' base' sp' held' f' t cs' = some (d, p') → cs = cs' := by
  intro k
  induction k with
  | zero => intro t h; cases h
  | succ k ih =>
    intro t hk f f' cs cs' d p p' h h'
    unfold flatB at hk
    split at hk
    · next hu =>
      obtain ⟨b, rfl, e⟩ := DataW.trod_bool hu h
      obtain ⟨b', rfl, e'⟩ := DataW.trod_bool hu h'
      injection e with e _
      injection e' with e' _
      rw [e] at e'
      injection e' with e'
      injection e' with e'
      rw [e']
    · next hu =>
      obtain ⟨b, rfl, e, _⟩ := DataW.trod_int hu h
      obtain ⟨b', rfl, e', _⟩ := DataW.trod_int hu h'
      injection e with e _
      injection e' with e' _
      rw [e] at e'
      injection e' with e'
      injection e' with _ e'
      rw [e']
    · next hu =>
      obtain ⟨b, rfl, e, _⟩ := DataW.trod_string hu h
      obtain ⟨b', rfl, e', _⟩ := DataW.trod_string hu h'
      injection e with e _
      injection e' with e' _
      rw [e] at e'
      injection e' with e'
      injection e' with e'
      have : b = b' := by
        cases b; cases b'
        simp only at e'
        rw [Array.toList_inj.1 e']
      rw [this]
    · next fs hu =>
      rw [Bool.and_eq_true] at hk
      obtain ⟨xs, n, _, e, hl, hxl, hf⟩ := DataW.trod_struct hu h
      obtain ⟨xs', n', _, e', hl', hxl', hf'⟩ := DataW.trod_struct hu h'
      injection e with e _
      injection e' with e' _
      rw [e] at e'
      injection e' with e'
      apply List.ext_getElem?
      intro i
      by_cases hi : i < P.cellsOf t
      · obtain ⟨f, hfm, hfi⟩ := List.any_eq_true.1 (List.all_eq_true.1 hk.2 i (List.mem_range.2 hi))
        rw [Bool.and_eq_true, decide_eq_true_iff, decide_eq_true_iff] at hfi
        obtain ⟨j, hj, rfl⟩ := List.getElem_of_mem hfm
        have hjs : j < fs.size := by simpa using hj
        have hq : fs[j]? = some fs.toList[j] := by rw [Array.getElem?_eq_getElem hjs]; simp
        have a1 := hf j _ hq
        have a2 := hf' j _ hq
        have hx : xs[j]? = some xs[j] := List.getElem?_eq_getElem (by omega)
        have hx' : xs'[j]? = some xs'[j] := List.getElem?_eq_getElem (by omega)
        have he : xs[j].1 = xs'[j].1 := by
          have := congrArg (·[j]?) e'
          simpa [hx, hx'] using this
        rw [hx] at a1
        rw [hx'] at a2
        exact seg_eq (ih _ (List.all_eq_true.1 hk.1 _ hfm) _ _ _ _ xs[j].1 xs[j].2 xs'[j].2 a1 (by rw [he]; exact a2)) hfi.1 hfi.2
      · rw [List.getElem?_eq_none (by omega), List.getElem?_eq_none (by omega)]
    · next m e0 hu =>
      rw [Bool.and_eq_true, decide_eq_true_iff] at hk
      obtain ⟨xs, n, e, hl, hxl, hf⟩ := trod_array hu h
      obtain ⟨xs', n', e', hl', hxl', hf'⟩ := trod_array hu h'
      dsimp only at e e'
      rw [e] at e'
      injection e' with e'
      apply List.ext_getElem?
      intro i
      by_cases hi : i < P.cellsOf t
      · have hc : 0 < P.cellsOf e0 := by
          rcases Nat.eq_zero_or_pos (P.cellsOf e0) with h0 | h0
          · rw [h0] at hk; omega
          · exact h0
        have hj : i / P.cellsOf e0 < m := Nat.div_lt_of_lt_mul (by rw [Nat.mul_comm]; omega)
        generalize hjd : i / P.cellsOf e0 = j at hj
        have hd := Nat.div_add_mod i (P.cellsOf e0)
        have hm := Nat.mod_lt i hc
        rw [hjd, Nat.mul_comm] at hd
        have a1 := hf j hj
        have a2 := hf' j hj
        have hx : xs[j]? = some xs[j] := List.getElem?_eq_getElem (by omega)
        have hx' : xs'[j]? = some xs'[j] := List.getElem?_eq_getElem (by omega)
        have he : xs[j].1 = xs'[j].1 := by
          have := congrArg (·[j]?) e'
          simpa [hx, hx'] using this
        rw [hx] at a1
        rw [hx'] at a2
        exact seg_eq (ih _ hk.1 _ _ _ _ xs[j].1 xs[j].2 xs'[j].2 a1 (by rw [he]; exact a2)) (by omega) (by omega)
      · rw [List.getElem?_eq_none (by omega), List.getElem?_eq_none (by omega)]
    · cases hk
end
/-- a package-level variable holds these cells -/
def GlobIs (w : World) (g : Nat) (cs : Array Value) : Prop := ∃ t fr, w.heap[g]? = some (.cells cs t fr)
theorem GlobIs.lt {w : World} {g : Nat} {cs : Array Value} (h : GlobIs w g cs) : g < w.heap.size := by
  obtain ⟨t, fr, h⟩ := h
  rcases Nat.lt_or_ge g w.heap.size with hlt | hge
  · exact hlt
  · rw [Array.getElem?_eq_none hge] at h; cases h
theorem GlobIs.below {w w' : World} {B g : Nat} {cs : Array Value} (h : GlobIs w g cs) (hb : Below B w w') (hB : w.heap.size ≤ B) : GlobIs w' g cs := by
  have hl := h.lt
  obtain ⟨t, fr, h⟩ := h
  exact ⟨t, fr, (hb.block g (by omega)).trans h⟩
theorem glob_of_var {P : Program} {w : World} {name : String} {g : Nat} {cs : Array Value} (hg : P.globalNamed name = some g) (h : w.var? P name = some cs) : GlobIs w g cs := by
  simp only [World.var?, hg, Option.bind_some] at h
  split at h
  · next c t fr he => cases h; exact ⟨t, fr, he⟩
  · cases h
/-- the first on the list -/
theorem glob_of_head {P : Program} {W w' : World} {name : String} {d : DataW Unit} {rest : List (String × DataW Unit)} {enc : TypeId × Value → Unit} {g fuel k : Nat} {t : TypeId} {cs : Array Value} {p' : List MemPlace} {base' : Nat} {sp' : Nat → Bool} {held' : Bool}
    (hg : P.globalNamed name = some g) (hty : (P.globals[g]?).map (·.type) = some t) (hk : flatB P k t = true) (hc : DataW.trod enc P w' base' sp' held' fuel t cs.toList = some (d, p'))
    (h : laidMet P ((name, d) :: rest) W) : GlobIs W g cs := by
  obtain ⟨ps, ⟨g', t', cs', fuel', p, q, hg', ht', hvar, hd, _, _⟩, _⟩ := h
  obtain rfl := Option.some.inj (hg.symm.trans hg')
  obtain rfl := Option.some.inj (hty.symm.trans ht')
  have := flat_inj k _ hk _ _ _ _ _ _ _ hd hc
  have he : cs' = cs := Array.toList_inj.1 this
  subst he
  exact glob_of_var hg hvar
end Go.Proofs.YtfoncmgcdldkdaaDoor

/-
  Pieces of a buffer, as plain lists: layer 5.
-/
import Derived.Test.YtacpfkkbjibmgaaM03
namespace Go.Proofs.Ytacpfkkbjibmgaa
open Go.RowKit

/-- a piece: where it begins in the buffer, how many bytes, their label -/
abbrev PieP := Nat × Nat × Nat
def bytesP (bs : List UInt8) (ps : List PieP) : List UInt8 := ps.flatMap fun p => (bs.drop p.1).take p.2.1
def labsP (ps : List PieP) : List Nat := ps.flatMap fun p => List.replicate p.2.1 p.2.2
def lenP (ps : List PieP) : Nat := (ps.map fun p => p.2.1).sum
def OkP (bs : List UInt8) (ps : List PieP) : Prop := ∀ p ∈ ps, 0 < p.2.1 ∧ p.1 + p.2.1 ≤ bs.length ∧ p.2.2 < 18446744073709551616

section
variable {bs : List UInt8} {ps qs : List PieP} {p : PieP}
theorem bytesP_nil : bytesP bs [] = [] := rfl
theorem bytesP_cons : bytesP bs (p :: ps) = (bs.drop p.1).take p.2.1 ++ bytesP bs ps := by simp [bytesP]
theorem bytesP_append : bytesP bs (ps ++ qs) = bytesP bs ps ++ bytesP bs qs := by simp [bytesP]
theorem labsP_nil : labsP [] = [] := rfl
theorem labsP_cons : labsP (p :: ps) = List.replicate p.2.1 p.2.2 ++ labsP ps := by simp [labsP]
theorem labsP_append : labsP (ps ++ qs) = labsP ps ++ labsP qs := by simp [labsP]
theorem lenP_nil : lenP [] = 0 := rfl
theorem lenP_cons : lenP (p :: ps) = p.2.1 + lenP ps := by simp [lenP]
theorem lenP_append : lenP (ps ++ qs) = lenP ps + lenP qs := by simp [lenP]
theorem OkP.nil : OkP bs [] := fun _ h => by cases h
theorem OkP.append (h : OkP bs ps) (h' : OkP bs qs) : OkP bs (ps ++ qs) := fun p hp => (List.mem_append.1 hp).elim (h p) (h' p)
theorem OkP.take (h : OkP bs ps) (k : Nat) : OkP bs (ps.take k) := fun p hp => h p (List.mem_of_mem_take hp)
theorem OkP.drop (h : OkP bs ps) (k : Nat) : OkP bs (ps.drop k) := fun p hp => h p (List.mem_of_mem_drop hp)
theorem OkP.tail (h : OkP bs (p :: ps)) : OkP bs ps := fun q hq => h q (by simp [hq])
theorem OkP.more (h : OkP bs ps) (X : List UInt8) : OkP (bs ++ X) ps := fun p hp => by
  have := h p hp
  rw [List.length_append]; omega
theorem OkP.one (h : 0 < p.2.1 ∧ p.1 + p.2.1 ≤ bs.length ∧ p.2.2 < 18446744073709551616) : OkP bs [p] := fun q hq => by
  have : q = p := by simpa using hq
  subst this; exact h
theorem labsP_len (ps : List PieP) : (labsP ps).length = lenP ps := by
  induction ps with
  | nil => rfl
  | cons p ps ih => rw [labsP_cons, lenP_cons, List.length_append, ih, List.length_replicate]
theorem bytesP_len (h : OkP bs ps) : (bytesP bs ps).length = lenP ps := by
  induction ps with
  | nil => rfl
  | cons p ps ih =>
    have hp := h p (by simp)
    rw [bytesP_cons, lenP_cons, List.length_append, ih h.tail, List.length_take, List.length_drop]
    omega
theorem len_le (h : OkP bs ps) : ps.length ≤ lenP ps := by
  induction ps with
  | nil => simp [lenP]
  | cons p ps ih =>
    have hp := h p (by simp)
    have := ih h.tail
    rw [lenP_cons, List.length_cons]; omega
theorem labsP_lt (h : OkP bs ps) : ∀ x ∈ labsP ps, x < 18446744073709551616 := by
  intro x hx
  unfold labsP at hx
  obtain ⟨p, hp, hx⟩ := List.mem_flatMap.1 hx
  rw [(List.mem_replicate.1 hx).2]
  exact (h p hp).2.2
/-- what is appended to the buffer changes nothing -/
theorem bytesP_more (h : OkP bs ps) (X : List UInt8) : bytesP (bs ++ X) ps = bytesP bs ps := by
  induction ps with
  | nil => rfl
  | cons p ps ih =>
    have hp := h p (by simp)
    rw [bytesP_cons, bytesP_cons, ih h.tail, List.drop_append_of_le_length (by omega), List.take_append_of_le_length (by rw [List.length_drop]; omega)]
theorem lenP_take_le (ps : List PieP) (k : Nat) : lenP (ps.take k) ≤ lenP ps := by
  have : lenP ps = lenP (ps.take k) + lenP (ps.drop k) := by rw [← lenP_append, List.take_append_drop]
  omega
theorem lenP_succ (k : Nat) (hk : k < ps.length) : lenP (ps.take (k + 1)) = lenP (ps.take k) + ps[k].2.1 := by
  rw [List.take_succ_eq_append_getElem hk, lenP_append, lenP_cons, lenP_nil]; rfl
theorem lenP_mono (h : OkP bs ps) {i j : Nat} (hij : i < j) (hj : j ≤ ps.length) : lenP (ps.take i) < lenP (ps.take j) := by
  induction j with
  | zero => omega
  | succ j ih =>
    have hj' : j < ps.length := by omega
    have hp := h ps[j] (List.getElem_mem hj')
    rw [lenP_succ j hj']
    by_cases e : i = j
    · subst e; omega
    · have := ih (by omega) (by omega); omega
/-- the first k pieces are the first bytes -/
theorem bytesP_take (h : OkP bs ps) (k : Nat) : bytesP bs (ps.take k) = (bytesP bs ps).take (lenP (ps.take k)) ∧ bytesP bs (ps.drop k) = (bytesP bs ps).drop (lenP (ps.take k)) := by
  have e : bytesP bs ps = bytesP bs (ps.take k) ++ bytesP bs (ps.drop k) := by rw [← bytesP_append, List.take_append_drop]
  have hl := bytesP_len (h.take k)
  rw [e]
  constructor
  · rw [List.take_left' hl]
  · rw [List.drop_left' hl]
theorem labsP_take (ps : List PieP) (k : Nat) : labsP (ps.take k) = (labsP ps).take (lenP (ps.take k)) ∧ labsP (ps.drop k) = (labsP ps).drop (lenP (ps.take k)) := by
  have e : labsP ps = labsP (ps.take k) ++ labsP (ps.drop k) := by rw [← labsP_append, List.take_append_drop]
  have hl := labsP_len (ps.take k)
  rw [e]
  constructor
  · rw [List.take_left' hl]
  · rw [List.drop_left' hl]
end

/-- a list whose piece k is cut behind its first m bytes -/
def cutP (ps : List PieP) (k m : Nat) (p : PieP) : List PieP := ps.take k ++ [(p.1, m, p.2.2)] ++ [(p.1 + m, p.2.1 - m, p.2.2)] ++ ps.drop (k + 1)
theorem take_drop_one {α : Type} {ps : List α} {k : Nat} (hk : k < ps.length) : ps = ps.take k ++ [ps[k]] ++ ps.drop (k + 1) := by
  rw [List.append_assoc, List.singleton_append, ← List.drop_eq_getElem_cons hk, List.take_append_drop]
theorem take_split {α : Type} (l : List α) {m n : Nat} (h : m ≤ n) : l.take m ++ (l.drop m).take (n - m) = l.take n := by
  rw [← List.take_add]
  congr 1; omega
section
variable {bs : List UInt8} {ps : List PieP} {k m : Nat}
theorem cutP_bytes (hk : k < ps.length) (hm : m ≤ ps[k].2.1) : bytesP bs (cutP ps k m ps[k]) = bytesP bs ps ∧ labsP (cutP ps k m ps[k]) = labsP ps := by
  unfold cutP
  constructor
  · conv => rhs; rw [take_drop_one hk]
    simp only [bytesP_append, bytesP_cons, bytesP_nil, List.append_nil]
    congr 1
    rw [List.append_assoc]
    congr 1
    rw [← List.drop_drop, take_split _ hm]
  · conv => rhs; rw [take_drop_one hk]
    simp only [labsP_append, labsP_cons, labsP_nil, List.append_nil]
    congr 1
    rw [List.append_assoc]
    congr 1
    rw [List.replicate_append_replicate]
    congr 1; omega
theorem cutP_ok (h : OkP bs ps) (hk : k < ps.length) (h0 : 0 < m) (hm : m < ps[k].2.1) : OkP bs (cutP ps k m ps[k]) := by
  have hp := h ps[k] (List.getElem_mem hk)
  unfold cutP
  refine (((h.take k).append (OkP.one ?_)).append (OkP.one ?_)).append (h.drop _)
  · exact ⟨h0, by show ps[k].1 + m ≤ _; omega, hp.2.2⟩
  · exact ⟨by show 0 < ps[k].2.1 - m; omega, by show ps[k].1 + m + (ps[k].2.1 - m) ≤ _; omega, hp.2.2⟩
theorem cutP_take (hk : k < ps.length) (p : PieP) : (cutP ps k m p).take (k + 1) = ps.take k ++ [(p.1, m, p.2.2)] ∧ ∀ j, j ≤ k → (cutP ps k m p).take j = ps.take j := by
  unfold cutP
  constructor
  · rw [List.append_assoc (ps.take k ++ _), List.take_left' (by simp; omega)]
  · intro j hj
    rw [List.append_assoc, List.append_assoc, List.take_append_of_le_length (by rw [List.length_take]; omega), List.take_take, Nat.min_eq_left hj]
theorem cutP_len (hk : k < ps.length) (p : PieP) : (cutP ps k m p).length = ps.length + 1 := by
  unfold cutP; simp; omega
end

/-- how a list looks when it was split at a: the index of the piece that begins there -/
structure Splits (bs : List UInt8) (ps : List PieP) (a : Nat) (qs : List PieP) (i : Nat) : Prop where
  ok : OkP bs qs
  bytes : bytesP bs qs = bytesP bs ps
  labs : labsP qs = labsP ps
  idx : i ≤ qs.length
  at_ : lenP (qs.take i) = a
  keep : ∀ j, j ≤ ps.length → lenP (ps.take j) ≤ a → qs.take j = ps.take j ∧ j ≤ i
theorem splits_none {bs : List UInt8} {ps : List PieP} {i : Nat} (h : OkP bs ps) (hi : i ≤ ps.length) : Splits bs ps (lenP (ps.take i)) ps i := by
  refine ⟨h, rfl, rfl, hi, rfl, fun j hj hl => ⟨rfl, ?_⟩⟩
  rcases Nat.lt_or_ge i j with hij | hij
  · have := lenP_mono h hij hj; omega
  · exact hij
theorem splits_cut {bs : List UInt8} {ps : List PieP} {k m : Nat} (h : OkP bs ps) (hk : k < ps.length) (h0 : 0 < m) (hm : m < ps[k].2.1) : Splits bs ps (lenP (ps.take k) + m) (cutP ps k m ps[k]) (k + 1) := by
  have hj : ∀ j, j ≤ ps.length → lenP (ps.take j) ≤ lenP (ps.take k) + m → j ≤ k := fun j hj hl => by
    rcases Nat.lt_or_ge k j with hkj | hkj
    · have hs := lenP_succ k hk
      rcases Nat.lt_or_ge (k + 1) j with h2 | h2
      · have := lenP_mono h h2 hj; omega
      · obtain rfl : j = k + 1 := by omega
        omega
    · exact hkj
  refine ⟨cutP_ok h hk h0 hm, (cutP_bytes (bs := bs) hk (by omega)).1, (cutP_bytes (bs := bs) hk (by omega)).2, by rw [cutP_len hk]; omega, ?_, fun j h1 h2 => ⟨(cutP_take hk _).2 j (hj j h1 h2), by have := hj j h1 h2; omega⟩⟩
  rw [(cutP_take hk _).1, lenP_append, lenP_cons, lenP_nil]; rfl

/-- neighbours made one -/
def joinStep (acc : List PieP) (p : PieP) : List PieP :=
  match acc.getLast? with
  | none => acc ++ [p]
  | some q => if q.2.2 = p.2.2 ∧ q.1 + q.2.1 = p.1 then acc.dropLast ++ [(q.1, q.2.1 + p.2.1, q.2.2)] else acc ++ [p]
def joinP (ps : List PieP) : List PieP := ps.foldl joinStep []
theorem joinP_snoc (ps : List PieP) (p : PieP) : joinP (ps ++ [p]) = joinStep (joinP ps) p := by simp [joinP, List.foldl_append]
theorem joinStep_nil (p : PieP) : joinStep [] p = [p] := rfl
theorem joinStep_snoc (acc : List PieP) (q p : PieP) : joinStep (acc ++ [q]) p = if q.2.2 = p.2.2 ∧ q.1 + q.2.1 = p.1 then acc ++ [(q.1, q.2.1 + p.2.1, q.2.2)] else acc ++ [q] ++ [p] := by
  unfold joinStep
  rw [List.getLast?_concat]
  simp only [List.dropLast_concat]
theorem joinStep_len (acc : List PieP) (p : PieP) : (joinStep acc p).length ≤ acc.length + 1 := by
  rcases snoc_cases acc with rfl | ⟨m, q, rfl⟩
  · rw [joinStep_nil]; simp
  · rw [joinStep_snoc]; split <;> simp
theorem joinStep_says {bs : List UInt8} {acc : List PieP} {p : PieP} (h : OkP bs acc) (hp : OkP bs [p]) : OkP bs (joinStep acc p) ∧ bytesP bs (joinStep acc p) = bytesP bs (acc ++ [p]) ∧ labsP (joinStep acc p) = labsP (acc ++ [p]) := by
  rcases snoc_cases acc with rfl | ⟨m, q, rfl⟩
  · rw [joinStep_nil]; exact ⟨hp, rfl, rfl⟩
  · rw [joinStep_snoc]
    split
    · next e =>
      have hq := h q (by simp)
      have hp' := hp p (by simp)
      have hm : OkP bs m := fun x hx => h x (by simp [hx])
      refine ⟨hm.append (OkP.one ⟨by show 0 < q.2.1 + p.2.1; omega, by show q.1 + (q.2.1 + p.2.1) ≤ _; omega, hq.2.2⟩), ?_, ?_⟩
      · simp only [bytesP_append, bytesP_cons, bytesP_nil, List.append_nil, List.append_assoc]
        congr 1
        rw [← e.2, ← List.drop_drop, List.take_add]
      · simp only [labsP_append, labsP_cons, labsP_nil, List.append_nil, List.append_assoc]
        congr 1
        rw [← e.1, List.replicate_append_replicate]
    · exact ⟨h.append hp, rfl, rfl⟩
theorem joinP_says {bs : List UInt8} {ps : List PieP} (h : OkP bs ps) (k : Nat) (hk : k ≤ ps.length) : OkP bs (joinP (ps.take k)) ∧ bytesP bs (joinP (ps.take k)) = bytesP bs (ps.take k) ∧ labsP (joinP (ps.take k)) = labsP (ps.take k) ∧ (joinP (ps.take k)).length ≤ k := by
  induction k with
  | zero => exact ⟨OkP.nil, rfl, rfl, Nat.le_refl _⟩
  | succ k ih =>
    have hk' : k < ps.length := by omega
    obtain ⟨a, b, c, d⟩ := ih (by omega)
    have hp : OkP bs [ps[k]] := OkP.one (h ps[k] (List.getElem_mem hk'))
    rw [List.take_succ_eq_append_getElem hk', joinP_snoc]
    obtain ⟨x, y, z⟩ := joinStep_says a hp
    have := joinStep_len (joinP (ps.take k)) ps[k]
    exact ⟨x, by rw [y, bytesP_append, b, bytesP_append], by rw [z, labsP_append, c, labsP_append], by omega⟩

/-- the pieces of runs that lie in the buffer from a on -/
def keepP : Nat → List RunP → List PieP
  | _, [] => []
  | a, r :: l => (a, r.2.toNat, r.1) :: keepP (a + r.2.toNat) l
theorem keepP_snoc (a : Nat) (l : List RunP) (r : RunP) : keepP a (l ++ [r]) = keepP a l ++ [(a + sumN l, r.2.toNat, r.1)] := by
  induction l generalizing a with
  | nil => simp [keepP, sumN]
  | cons s l ih =>
    simp only [List.cons_append, keepP, ih]
    congr 3
    simp [sumN]; omega
theorem keepP_len (a : Nat) (l : List RunP) : (keepP a l).length = l.length := by
  induction l generalizing a with
  | nil => rfl
  | cons r l ih => simp [keepP, ih]
theorem keepP_labs (a : Nat) (l : List RunP) : labsP (keepP a l) = bytesOf l := by
  induction l generalizing a with
  | nil => rfl
  | cons r l ih => simp only [keepP, labsP_cons, bytesOf_cons, ih]
theorem keepP_bytes (pre : List UInt8) (S : List UInt8) (l : List RunP) (h : sumN l ≤ S.length) : bytesP (pre ++ S) (keepP pre.length l) = S.take (sumN l) := by
  induction l generalizing pre S with
  | nil => simp [keepP, bytesP, sumN]
  | cons r l ih =>
    have hs : sumN (r :: l) = r.2.toNat + sumN l := by simp [sumN]
    have hr : r.2.toNat ≤ S.length := by omega
    have := ih (pre ++ S.take r.2.toNat) (S.drop r.2.toNat) (by rw [List.length_drop]; omega)
    rw [List.append_assoc, List.take_append_drop, List.length_append, List.length_take, Nat.min_eq_left hr] at this
    simp only [keepP, bytesP_cons]
    rw [this, List.drop_left, hs, List.take_add]
theorem keepP_ok (pre : List UInt8) (S : List UInt8) (l : List RunP) (hs : sumN l ≤ S.length) (hn : ∀ r ∈ l, 1 ≤ r.2) (hf : ∀ r ∈ l, r.1 < 18446744073709551616) : OkP (pre ++ S) (keepP pre.length l) := by
  have key : ∀ (a : Nat) (l : List RunP), a + sumN l ≤ (pre ++ S).length → (∀ r ∈ l, 1 ≤ r.2) → (∀ r ∈ l, r.1 < 18446744073709551616) → OkP (pre ++ S) (keepP a l) := by
    intro a l
    induction l generalizing a with
    | nil => intro _ _ _; exact OkP.nil
    | cons r l ih =>
      intro h1 h2 h3
      have hsum : sumN (r :: l) = r.2.toNat + sumN l := by simp [sumN]
      have hr := h2 r (by simp)
      intro p hp
      rcases List.mem_cons.1 hp with rfl | hp
      · exact ⟨by show 0 < r.2.toNat; omega, by show a + r.2.toNat ≤ _; omega, h3 r (by simp)⟩
      · exact ih (a + r.2.toNat) (by omega) (fun x hx => h2 x (by simp [hx])) (fun x hx => h3 x (by simp [hx])) p hp
  exact key pre.length l (by rw [List.length_append]; omega) hn hf

/-- the pieces of the bytes f..t, of which the first piece begins at s -/
def partOne (s f t : Nat) (p : PieP) : List PieP := if max s f < min (s + p.2.1) t then [(p.1 + max s f - s, min (s + p.2.1) t - max s f, p.2.2)] else []
def partP (ps : List PieP) (f t : Nat) : Nat → List PieP
  | 0 => []
  | k + 1 => partP ps f t k ++ (match ps[k]? with | some p => partOne (lenP (ps.take k)) f t p | none => [])
theorem partP_succ {ps : List PieP} {k : Nat} (hk : k < ps.length) (f t : Nat) : partP ps f t (k + 1) = partP ps f t k ++ partOne (lenP (ps.take k)) f t ps[k] := by
  rw [partP, List.getElem?_eq_getElem hk]
theorem partP_len (ps : List PieP) (f t k : Nat) : (partP ps f t k).length ≤ k := by
  induction k with
  | zero => simp [partP]
  | succ k ih =>
    rw [partP, List.length_append]
    have h1 : ∀ p, (partOne (lenP (ps.take k)) f t p).length ≤ 1 := fun p => by unfold partOne; split <;> simp
    cases ps[k]? with
    | none => simp; omega
    | some p => have := h1 p; simp only; omega
/-- bytes f..t of some, one behind the other -/
theorem cut_append {α : Type} (a b : List α) (f t : Nat) : ((a ++ b).drop f).take (t - f) = (a.drop f).take (t - f) ++ (b.drop (f - a.length)).take (t - max f a.length) := by
  rw [List.drop_append, List.take_append]
  congr 2
  rw [List.length_drop]
  omega
theorem partOne_bytes (bs : List UInt8) {s f t : Nat} {p : PieP} : bytesP bs (partOne s f t p) = (((bs.drop p.1).take p.2.1).drop (f - s)).take (t - max f s) := by
  unfold partOne
  split
  · next h =>
    rw [bytesP_cons, bytesP_nil, List.append_nil]
    simp only
    rw [List.drop_take, List.take_take, List.drop_drop]
    have e1 : p.1 + max s f - s = p.1 + (f - s) := by omega
    have e2 : min (s + p.2.1) t - max s f = min (t - max f s) (p.2.1 - (f - s)) := by omega
    rw [e1, e2]
  · next h =>
    rw [bytesP_nil]
    symm
    rw [List.drop_take, List.take_take, List.take_eq_nil_iff]
    left
    omega
theorem partOne_labs {s f t : Nat} {p : PieP} : labsP (partOne s f t p) = ((List.replicate p.2.1 p.2.2).drop (f - s)).take (t - max f s) := by
  rw [List.drop_replicate, List.take_replicate]
  unfold partOne
  split
  · next h =>
    rw [labsP_cons, labsP_nil, List.append_nil]
    simp only
    congr 1
    omega
  · next h =>
    rw [labsP_nil]
    symm
    rw [List.replicate_eq_nil_iff]
    omega
theorem partOne_ok {bs : List UInt8} {s f t : Nat} {p : PieP} (hp : OkP bs [p]) : OkP bs (partOne s f t p) := by
  have h0 := hp p (by simp)
  unfold partOne
  split
  · next h =>
    refine OkP.one ⟨?_, ?_, h0.2.2⟩
    · show 0 < min (s + p.2.1) t - max s f; omega
    · show p.1 + max s f - s + (min (s + p.2.1) t - max s f) ≤ _
      omega
  · exact OkP.nil
theorem partP_says {bs : List UInt8} {ps : List PieP} (h : OkP bs ps) (f t k : Nat) (hk : k ≤ ps.length) : OkP bs (partP ps f t k) ∧ bytesP bs (partP ps f t k) = ((bytesP bs (ps.take k)).drop f).take (t - f) ∧ labsP (partP ps f t k) = ((labsP (ps.take k)).drop f).take (t - f) := by
  induction k with
  | zero => exact ⟨OkP.nil, by simp [partP, bytesP], by simp [partP, labsP]⟩
  | succ k ih =>
    have hk' : k < ps.length := by omega
    obtain ⟨a, b, c⟩ := ih (by omega)
    have hp : OkP bs [ps[k]] := OkP.one (h ps[k] (List.getElem_mem hk'))
    rw [partP_succ hk', List.take_succ_eq_append_getElem hk']
    refine ⟨a.append (partOne_ok hp), ?_, ?_⟩
    · rw [bytesP_append, bytesP_append, cut_append, b, partOne_bytes bs, bytesP_len (h.take k), bytesP_cons, bytesP_nil, List.append_nil]
    · rw [labsP_append, labsP_append, cut_append, c, partOne_labs, labsP_len, labsP_cons, labsP_nil, List.append_nil]

/-- n bytes of one label more, as runs -/
def packMore (m : List RunP) (x n : Nat) : List RunP :=
  match m.getLast? with
  | none => m ++ [(x, (n : Int))]
  | some r => if r.1 = x then m.dropLast ++ [(r.1, r.2 + n)] else m ++ [(x, (n : Int))]
theorem packMore_nil (x n : Nat) : packMore [] x n = [(x, (n : Int))] := rfl
theorem packMore_snoc (m : List RunP) (r : RunP) (x n : Nat) : packMore (m ++ [r]) x n = if r.1 = x then m ++ [(r.1, r.2 + n)] else m ++ [r] ++ [(x, (n : Int))] := by
  unfold packMore
  rw [List.getLast?_concat]
  simp only [List.dropLast_concat]
theorem pack_moreN (b : List Nat) (x n : Nat) (hn : 1 ≤ n) : pack (b ++ List.replicate n x) = packMore (pack b) x n := by
  rcases snoc_cases (pack b) with e | ⟨m, r, e⟩
  · rw [e, packMore_nil, pack_replicate e x n (fun m r h => by simp at h) hn]; rfl
  · rw [e, packMore_snoc]
    by_cases hx : r.1 = x
    · rw [if_pos hx]
      subst hx
      have key : ∀ n, pack (b ++ List.replicate n r.1) = m ++ [(r.1, r.2 + n)] := by
        intro n
        induction n with
        | zero => simp [e]
        | succ n ih =>
          rw [List.replicate_succ', ← List.append_assoc, pack_snoc, ih, packStep_snoc, if_pos rfl]
          congr 2
          exact Prod.ext rfl (by show r.2 + (n : Int) + 1 = _; omega)
      exact key n
    · rw [if_neg hx, pack_replicate e x n (fun m' r' h => by
        have : r = r' := by simpa using (List.append_inj' h rfl).2
        subst this; exact hx) hn]
theorem neat_pos {l : List RunP} (h : Neat l) : ∀ r ∈ l, 1 ≤ r.2 := by
  induction h with
  | nil => intro r hr; cases hr
  | one r h => intro s hs; have : s = r := by simpa using hs
               subst this; exact h
  | snoc l r s hl h hne ih =>
    intro q hq
    rcases List.mem_append.1 hq with hq | hq
    · exact ih q hq
    · have : q = s := by simpa using hq
      subst this; exact h
end Go.Proofs.Ytacpfkkbjibmgaa

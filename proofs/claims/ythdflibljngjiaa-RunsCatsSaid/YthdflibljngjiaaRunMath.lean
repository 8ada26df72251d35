/-
  Runs and the labels of bytes, as plain lists: layer 3.
-/
import Derived.Test.YthdflibljngjiaaWords
namespace Go.Proofs.Ythdflibljngjiaa
open Go.RowKit

/-- a run: a label, and how many bytes -/
abbrev RunP := Nat × Int
def bytesOf (l : List RunP) : List Nat := l.flatMap fun r => List.replicate r.2.toNat r.1
def packStep (out : List RunP) (x : Nat) : List RunP :=
  match out.getLast? with
  | none => [(x, 1)]
  | some r => if r.1 = x then out.dropLast ++ [(x, r.2 + 1)] else out ++ [(x, 1)]
def pack (b : List Nat) : List RunP := b.foldl packStep []
theorem pack_nil : pack [] = [] := rfl
theorem pack_snoc (b : List Nat) (x : Nat) : pack (b ++ [x]) = packStep (pack b) x := by simp [pack, List.foldl_append]
theorem bytesOf_nil : bytesOf [] = [] := rfl
theorem bytesOf_cons (r : RunP) (l : List RunP) : bytesOf (r :: l) = List.replicate r.2.toNat r.1 ++ bytesOf l := by simp [bytesOf]
theorem bytesOf_append (l m : List RunP) : bytesOf (l ++ m) = bytesOf l ++ bytesOf m := by simp [bytesOf]
theorem bytesOf_one (r : RunP) : bytesOf [r] = List.replicate r.2.toNat r.1 := by simp [bytesOf]

/-- each run has a byte, and neighbours differ -/
inductive Neat : List RunP → Prop
  | nil : Neat []
  | one (r : RunP) (h : 1 ≤ r.2) : Neat [r]
  | snoc (l : List RunP) (r s : RunP) (hl : Neat (l ++ [r])) (h : 1 ≤ s.2) (hne : r.1 ≠ s.1) : Neat (l ++ [r] ++ [s])

theorem snoc_cases {α : Type} (l : List α) : l = [] ∨ ∃ m x, l = m ++ [x] := by
  rcases l.eq_nil_or_concat with h | ⟨m, x, h⟩
  · exact .inl h
  · exact .inr ⟨m, x, by simpa using h⟩
theorem packStep_nil (x : Nat) : packStep [] x = [(x, 1)] := rfl
theorem packStep_snoc (l : List RunP) (r : RunP) (x : Nat) : packStep (l ++ [r]) x = if r.1 = x then l ++ [(x, r.2 + 1)] else l ++ [r] ++ [(x, 1)] := by
  unfold packStep
  rw [List.getLast?_concat]
  simp only [List.dropLast_concat]
theorem Neat.last {l : List RunP} {r : RunP} (h : Neat (l ++ [r])) : 1 ≤ r.2 := by
  generalize e : l ++ [r] = m at h
  cases h with
  | nil => simp at e
  | one s h =>
    have := congrArg List.getLast? e
    rw [List.getLast?_concat] at this
    simp at this; subst this; exact h
  | snoc k a s hl h hne =>
    have := congrArg List.getLast? e
    rw [List.getLast?_concat, List.getLast?_concat] at this
    simp at this; subst this; exact h
theorem Neat.more {l : List RunP} {r : RunP} (h : Neat (l ++ [r])) : Neat (l ++ [(r.1, r.2 + 1)]) := by
  have h1 := h.last
  generalize e : l ++ [r] = m at h
  cases h with
  | nil => simp at e
  | one s h =>
    rcases snoc_cases l with rfl | ⟨k, x, rfl⟩
    · exact .one _ (by show 1 ≤ r.2 + 1; omega)
    · have := congrArg List.length e; simp at this
  | snoc k a s hl h hne =>
    obtain ⟨e1, e2⟩ := List.append_inj' e rfl
    subst e1
    have e3 : r = s := by simpa using e2
    subst e3
    exact .snoc k a _ hl (by show 1 ≤ r.2 + 1; omega) hne
theorem neat_step {l : List RunP} (h : Neat l) (x : Nat) : Neat (packStep l x) := by
  rcases snoc_cases l with rfl | ⟨m, r, rfl⟩
  · exact .one _ (Int.le_refl _)
  · rw [packStep_snoc]
    split
    · next e => subst e; exact h.more
    · next hne => exact .snoc m r _ h (Int.le_refl _) hne
theorem bytesOf_step {l : List RunP} (h : Neat l) (x : Nat) : bytesOf (packStep l x) = bytesOf l ++ [x] := by
  rcases snoc_cases l with rfl | ⟨m, r, rfl⟩
  · rfl
  · have h1 := h.last
    rw [packStep_snoc]
    split
    · next e =>
      subst e
      rw [bytesOf_append, bytesOf_append, bytesOf_one, bytesOf_one, List.append_assoc]
      congr 1
      show List.replicate (r.2 + 1).toNat r.1 = _
      rw [show (r.2 + 1).toNat = r.2.toNat + 1 by omega, List.replicate_succ']
    · rw [bytesOf_append]; rfl
theorem snoc_ind {P : List Nat → Prop} (h0 : P []) (h1 : ∀ b x, P b → P (b ++ [x])) (b : List Nat) : P b := by
  have key : ∀ n (b : List Nat), b.length = n → P b := by
    intro n
    induction n with
    | zero => intro b hb; rw [List.eq_nil_of_length_eq_zero hb]; exact h0
    | succ n ih =>
      intro b hb
      rcases snoc_cases b with rfl | ⟨m, x, rfl⟩
      · simp at hb
      · exact h1 m x (ih m (by simpa using hb))
  exact key _ b rfl
theorem neat_pack (b : List Nat) : Neat (pack b) :=
  snoc_ind (P := fun b => Neat (pack b)) .nil (fun b x ih => by rw [pack_snoc]; exact neat_step ih x) b
theorem bytesOf_pack (b : List Nat) : bytesOf (pack b) = b :=
  snoc_ind (P := fun b => bytesOf (pack b) = b) rfl (fun b x ih => by rw [pack_snoc, bytesOf_step (neat_pack b), ih]) b
/-- n bytes of one label behind a list that does not end with it -/
theorem pack_replicate {b : List Nat} {l : List RunP} (hl : pack b = l) (x n : Nat) (hx : ∀ m r, l = m ++ [r] → r.1 ≠ x) (hn : 1 ≤ n) : pack (b ++ List.replicate n x) = l ++ [(x, (n : Int))] := by
  induction n with
  | zero => omega
  | succ n ih =>
    rw [List.replicate_succ', ← List.append_assoc, pack_snoc]
    by_cases h0 : n = 0
    · subst h0
      rw [List.replicate_zero, List.append_nil, hl]
      rcases snoc_cases l with rfl | ⟨m, r, rfl⟩
      · rfl
      · rw [packStep_snoc, if_neg (hx m r rfl)]; rfl
    · rw [ih (by omega), packStep_snoc, if_pos rfl]
      congr 1
theorem pack_bytesOf {l : List RunP} (h : Neat l) : pack (bytesOf l) = l := by
  induction h with
  | nil => rfl
  | one r h =>
    have := pack_replicate (b := []) (l := []) rfl r.1 r.2.toNat (fun m r e => by simp at e) (by omega)
    rw [bytesOf_one]
    rw [List.nil_append, List.nil_append] at this
    rw [this]
    congr 1
    exact Prod.ext rfl (by show ((r.2.toNat : Nat) : Int) = r.2; omega)
  | snoc l r s hl h hne ih =>
    rw [bytesOf_append, bytesOf_one, pack_replicate ih s.1 s.2.toNat (fun m q e => ?_) (by omega)]
    · congr 2
      exact Prod.ext rfl (by show ((s.2.toNat : Nat) : Int) = s.2; omega)
    · have : r = q := by simpa using (List.append_inj' e rfl).2
      subst this; exact hne
theorem neat_iff (l : List RunP) : Neat l ↔ pack (bytesOf l) = l := ⟨pack_bytesOf, fun h => h ▸ neat_pack _⟩
theorem pack_inj {b c : List Nat} (h : pack b = pack c) : b = c := by rw [← bytesOf_pack b, h, bytesOf_pack]
theorem bytesOf_inj {l m : List RunP} (hl : Neat l) (hm : Neat m) (h : bytesOf l = bytesOf m) : l = m := by rw [← pack_bytesOf hl, h, pack_bytesOf hm]

/-- all bytes of a list, counted -/
def sumN (l : List RunP) : Nat := (l.map fun r => r.2.toNat).sum
theorem bytesOf_len (l : List RunP) : (bytesOf l).length = sumN l := by
  induction l with
  | nil => rfl
  | cons r l ih => rw [bytesOf_cons, List.length_append, ih]; simp [sumN]
theorem sumN_pack (b : List Nat) : sumN (pack b) = b.length := by rw [← bytesOf_len, bytesOf_pack]
theorem sumN_nil : sumN [] = 0 := rfl
theorem sumN_snoc (l : List RunP) (r : RunP) : sumN (l ++ [r]) = sumN l + r.2.toNat := by simp [sumN]
theorem sumN_take_le (l : List RunP) (k : Nat) : sumN (l.take k) ≤ sumN l := by
  have : sumN l = sumN (l.take k) + sumN (l.drop k) := by
    unfold sumN; rw [← List.sum_append, ← List.map_append, List.take_append_drop]
  omega
/-- how many bytes; 4097 if they are more than 4096 -/
def totalOf (l : List RunP) : Nat := if sumN l ≤ 4096 then sumN l else 4097
def goodB (l : List RunP) : Bool := decide (sumN l ≤ 4096) && decide (pack (bytesOf l) = l)
theorem goodB_iff (l : List RunP) : goodB l = true ↔ sumN l ≤ 4096 ∧ Neat l := by
  unfold goodB; rw [neat_iff]; simp
theorem goodB_pack {b : List Nat} (h : b.length ≤ 4096) : goodB (pack b) = true := (goodB_iff _).2 ⟨by rw [sumN_pack]; exact h, neat_pack b⟩
theorem goodB_eq {l : List RunP} (h : goodB l = true) : pack (bytesOf l) = l := pack_bytesOf ((goodB_iff l).1 h).2
theorem totalOf_good {l : List RunP} (h : goodB l = true) : totalOf l = (bytesOf l).length := by
  rw [bytesOf_len]; unfold totalOf; rw [if_pos ((goodB_iff l).1 h).1]
end Go.Proofs.Ythdflibljngjiaa

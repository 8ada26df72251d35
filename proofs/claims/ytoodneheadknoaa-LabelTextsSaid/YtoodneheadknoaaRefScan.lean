/-
  Plain facts on the document's reading of a label's text: the marks that its digits name. No program here.
-/
import Derived.Test.YtoodneheadknoaaLabParse
namespace Go.Proofs.Ytoodneheadknoaa

/-- a number has ended: it is marked, if it is a category and the text is no dash -/
def sepStep (nd : Bool) (st : Nat × (Nat → Bool)) : Nat × (Nat → Bool) := (0, fun i => if i = st.1 ∧ st.1 < 64 ∧ nd = true then true else st.2 i)
def stepO (nd : Bool) (st : Nat × (Nat → Bool)) (o : Option UInt8) : Nat × (Nat → Bool) := match o with
  | some b => if isDig b = true ∧ st.1 < 1000 then (10 * st.1 + (b.toNat - 48), st.2) else sepStep nd st
  | none => sepStep nd st
def items (S : List UInt8) : List (Option UInt8) := S.map some ++ [none]
def scan (nd : Bool) (S : List UInt8) (k : Nat) : Nat × (Nat → Bool) := ((items S).take k).foldl (stepO nd) (0, fun _ => false)
theorem items_len (S : List UInt8) : (items S).length = S.length + 1 := by simp [items]
theorem items_get (S : List UInt8) (k : Nat) (h : k < S.length) : (items S)[k]'(by rw [items_len]; omega) = some S[k] := by simp [items, h]
theorem items_end (S : List UInt8) : (items S)[S.length]'(by rw [items_len]; omega) = none := by simp [items]
theorem scan_succ (nd : Bool) (S : List UInt8) (k : Nat) (h : k < S.length) : scan nd S (k + 1) = stepO nd (scan nd S k) (some S[k]) := by
  unfold scan
  rw [take_snoc _ k (by rw [items_len]; omega), List.foldl_append, items_get S k h]; rfl
theorem scan_last (nd : Bool) (S : List UInt8) : scan nd S (S.length + 1) = sepStep nd (scan nd S S.length) := by
  unfold scan
  rw [take_snoc _ S.length (by rw [items_len]; omega), List.foldl_append, items_end S]; rfl
theorem scan_zero (nd : Bool) (S : List UInt8) : scan nd S 0 = (0, fun _ => false) := rfl
theorem stepO_small (nd : Bool) (st : Nat × (Nat → Bool)) (o : Option UInt8) : (stepO nd st o).1 < 20000 := by
  unfold stepO
  split
  · split
    · rename_i b h
      have := dig_nat h.1
      simp; omega
    · simp [sepStep]
  · simp [sepStep]
theorem scan_small (nd : Bool) (S : List UInt8) (k : Nat) (hk : k ≤ S.length) : (scan nd S k).1 < 20000 := by
  cases k with
  | zero => rw [scan_zero]; simp
  | succ k => rw [scan_succ nd S k (by omega)]; exact stepO_small _ _ _

theorem fold_digs (nd : Bool) (c : Nat) (hc : c < 64) (F : Nat → Bool) : ((digs c).map some).foldl (stepO nd) (0, F) = (c, F) := by
  by_cases h10 : 10 ≤ c
  · rw [show digs c = [UInt8.ofNat (48 + c / 10), UInt8.ofNat (48 + c % 10)] from if_pos h10]
    have h1 := dig_of (show c / 10 < 10 by omega)
    have h2 := dig_of (show c % 10 < 10 by omega)
    have e1 : (UInt8.ofNat (48 + c / 10)).toNat = 48 + c / 10 := by rw [UInt8.toNat_ofNat', Nat.mod_eq_of_lt (by omega)]
    have e2 : (UInt8.ofNat (48 + c % 10)).toNat = 48 + c % 10 := by rw [UInt8.toNat_ofNat', Nat.mod_eq_of_lt (by omega)]
    generalize UInt8.ofNat (48 + c / 10) = d1 at *
    generalize UInt8.ofNat (48 + c % 10) = d2 at *
    simp only [List.map_cons, List.map_nil, List.foldl_cons, List.foldl_nil, stepO, h1, h2, e1, e2, true_and]
    simp only [show (0 : Nat) < 1000 from by decide, if_true]
    rw [if_pos (by omega)]
    simp; omega
  · rw [show digs c = [UInt8.ofNat (48 + c % 10)] from if_neg h10]
    have h2 := dig_of (show c % 10 < 10 by omega)
    have e2 : (UInt8.ofNat (48 + c % 10)).toNat = 48 + c % 10 := by rw [UInt8.toNat_ofNat', Nat.mod_eq_of_lt (by omega)]
    generalize UInt8.ofNat (48 + c % 10) = d2 at *
    simp only [List.map_cons, List.map_nil, List.foldl_cons, List.foldl_nil, stepO, h2, e2, true_and]
    rw [if_pos (by omega)]
    simp; omega

theorem fold_dots : ∀ (cs : List Nat) (F : Nat → Bool), cs ≠ [] → (∀ c ∈ cs, c < 64) → (items (dots cs)).foldl (stepO true) (0, F) = (0, fun i => decide (i ∈ cs) || F i) := by
  intro cs
  induction cs with
  | nil => intro F h; exact absurd rfl h
  | cons c cs ih =>
    intro F _ hc
    have hc64 := hc c (by simp)
    unfold items
    rw [dots_cons, List.map_append, List.append_assoc, List.foldl_append, fold_digs true c hc64]
    by_cases h0 : cs = []
    · subst h0
      simp only [if_true, List.map_nil, List.nil_append, List.foldl_cons, List.foldl_nil, stepO, sepStep]
      congr 1
      funext i
      by_cases hi : i = c
      · simp [hi, hc64]
      · simp [hi]
    · rw [if_neg h0]
      have h46 : stepO true (c, F) (some 46) = (0, fun i => decide (i = c) || F i) := by
        have hd : isDig 46 = false := dot_no_dig
        simp only [stepO, hd, sepStep]
        rw [if_neg (by simp)]
        congr 1
        funext i
        by_cases hi : i = c
        · simp [hi, hc64]
        · simp [hi]
      rw [List.map_cons, List.cons_append, List.foldl_cons, h46]
      have := ih (fun i => decide (i = c) || F i) h0 (fun x hx => hc x (by simp [hx]))
      unfold items at this
      rw [this]
      congr 1
      funext i
      by_cases hi : i = c <;> simp [hi]

theorem scan_dash (S : List UInt8) (k : Nat) : (scan false S k).2 = fun _ => false := by
  have key : ∀ (l : List (Option UInt8)) (st : Nat × (Nat → Bool)), (l.foldl (stepO false) st).2 = st.2 := by
    intro l
    induction l with
    | nil => intro st; rfl
    | cons o l ih =>
      intro st
      rw [List.foldl_cons, ih]
      cases o with
      | none => simp [stepO, sepStep]
      | some b => simp only [stepO]; split <;> simp [sepStep]
  unfold scan
  rw [key]

/-- the marks of a label's own text are its own -/
theorem scan_print {l : Nat} (hl : l < 18446744073709551616) (i : Nat) (hi : i < 64) :
    (scan (decide (printN l ≠ [45])) (printN l) ((printN l).length + 1)).2 i = l.testBit i := by
  by_cases h0 : l = 0
  · subst h0
    have e : printN 0 = [45] := rfl
    rw [e, show decide ([45] ≠ ([45] : List UInt8)) = false by decide, scan_dash]; simp
  · have hp : printN l ≠ [45] := fun h => h0 (print_zero hl h)
    rw [show decide (printN l ≠ [45]) = true by simpa using hp]
    have e : printN l = dots (catsTo l 64) := if_neg h0
    rw [e]
    unfold scan
    rw [List.take_of_length_le (by rw [items_len]; omega), fold_dots _ _ (catsTo_ne hl h0) (catsTo_lt l 64)]
    have := mem_catsTo l 64 i
    cases h : l.testBit i <;> simp [this, h, hi]
theorem print_short {a : Nat} : (printN a).length ≤ 192 := by
  unfold printN
  split
  · simp
  · have h1 := dots_len (catsTo a 64) 64
    have h2 := catsTo_len a 64
    rw [List.take_of_length_le h2] at h1
    omega
end Go.Proofs.Ytoodneheadknoaa

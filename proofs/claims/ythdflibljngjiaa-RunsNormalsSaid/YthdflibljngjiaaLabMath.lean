/-
  Plain facts on labels as numbers: which categories a label has, the label of categories. No program here.
-/
import Derived.Test.YthdflibljngjiaaWords
namespace Go.Proofs.Ythdflibljngjiaa

theorem subB_bit (k l : Nat) : (((2 ^ k &&& l : Nat) : Int) == ((2 ^ k : Nat) : Int)) = l.testBit k := by
  have h : (2 ^ k &&& l) = l / 2 ^ k % 2 * 2 ^ k := by rw [Nat.and_comm]; exact Go.nat_bit k l
  have hp : 0 < 2 ^ k := Nat.two_pow_pos k
  rw [Nat.testBit_eq_decide_div_mod_eq, h, Bool.eq_iff_iff, beq_iff_eq, decide_eq_true_iff]
  rcases Nat.mod_two_eq_zero_or_one (l / 2 ^ k) with e | e
  · rw [e]
    constructor
    · intro h; omega
    · intro h; omega
  · rw [e]; simp

/-- the categories below k -/
def catsTo (l k : Nat) : List Nat := (List.range k).filter (fun i => l.testBit i)

theorem catsTo_succ (l k : Nat) : catsTo l (k + 1) = catsTo l k ++ (if l.testBit k then [k] else []) := by
  unfold catsTo
  rw [List.range_succ, List.filter_append]
  by_cases h : l.testBit k <;> simp [h]

theorem catsTo_len (l k : Nat) : (catsTo l k).length ≤ k := by
  unfold catsTo
  have := List.length_filter_le (fun i => l.testBit i) (List.range k)
  simpa using this

theorem catsTo_lt (l k : Nat) : ∀ c ∈ catsTo l k, c < k := by
  intro c hc
  unfold catsTo at hc
  simp at hc
  exact hc.1

def intv (n : Nat) : Value := .int .i64 (n : Int)

/-- one category more; none stays none -/
def ofStep (acc : Option Nat) (c : Int) : Option Nat :=
  match acc with
  | none => none
  | some l => if 0 ≤ c ∧ c < 64 then some (l ||| 2 ^ c.toNat) else none
/-- the label of numbers; none if one of them is no category -/
def ofTo (zs : List Int) : Option Nat := zs.foldl ofStep (some 0)

theorem ofTo_snoc (zs : List Int) (c : Int) : ofTo (zs ++ [c]) = ofStep (ofTo zs) c := by
  unfold ofTo; rw [List.foldl_append]; rfl
theorem ofSteps_none (ys : List Int) : ys.foldl ofStep none = none := by
  induction ys with
  | nil => rfl
  | cons y ys ih => exact ih
theorem ofTo_none (zs ys : List Int) (h : ofTo zs = none) : ofTo (zs ++ ys) = none := by
  unfold ofTo at *
  rw [List.foldl_append, h]
  exact ofSteps_none ys

theorem or_lt {a b : Nat} (ha : a < 18446744073709551616) (hb : b < 18446744073709551616) : a ||| b < 18446744073709551616 := Nat.or_lt_two_pow (n := 64) ha hb
theorem and_lt {a : Nat} (b : Nat) (ha : a < 18446744073709551616) : a &&& b < 18446744073709551616 := Nat.lt_of_le_of_lt Nat.and_le_left ha
theorem pow_lt {k : Nat} (h : k < 64) : 2 ^ k < 18446744073709551616 := Nat.pow_lt_pow_of_lt (by decide) h

theorem ofTo_lt (zs : List Int) (l : Nat) (h : ofTo zs = some l) : l < 18446744073709551616 := by
  have key : ∀ (ys : List Int) (l0 l1 : Nat), l0 < 18446744073709551616 → ys.foldl ofStep (some l0) = some l1 → l1 < 18446744073709551616 := by
    intro ys
    induction ys with
    | nil => intro l0 l1 h0 h1; simp at h1; omega
    | cons y ys ih =>
      intro l0 l1 h0 h1
      rw [List.foldl_cons] at h1
      by_cases hy : 0 ≤ y ∧ y < 64
      · rw [show ofStep (some l0) y = some (l0 ||| 2 ^ y.toNat) by simp [ofStep, hy]] at h1
        exact ih _ l1 (or_lt h0 (pow_lt (by omega))) h1
      · rw [show ofStep (some l0) y = none by simp only [ofStep]; rw [if_neg hy], ofSteps_none] at h1
        cases h1
  exact key zs 0 l (by decide) h

end Go.Proofs.Ythdflibljngjiaa

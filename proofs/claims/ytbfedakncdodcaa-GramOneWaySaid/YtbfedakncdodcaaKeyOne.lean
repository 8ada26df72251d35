/-
  The document's one: layer 10.
-/
import Derived.Test.YtbfedakncdodcaaKeyPrint
import Derived.Test.YtbfedakncdodcaaGlyMoves
namespace Go.Proofs.Ytbfedakncdodcaa
open Go.RowKit

/-- what stands at the head hangs on four bytes -/
theorem dec_four (S : List UInt8) : dec (S.take 4) = dec S := by
  have hg : ∀ k, k < 4 → (S.take 4).getD k 0 = S.getD k 0 := fun k hk => by
    rw [List.getD_eq_getElem?_getD, List.getD_eq_getElem?_getD, List.getElem?_take, if_pos hk]
  have hs : ∀ k, k < 4 → decide (k < (S.take 4).length) = decide (k < S.length) := fun k hk => by
    rw [List.length_take]
    by_cases h : k < S.length
    · rw [decide_eq_true h, decide_eq_true (by omega)]
    · rw [decide_eq_false h, decide_eq_false (by omega)]
  simp only [dec, hg 0 (by omega), hg 1 (by omega), hg 2 (by omega), hg 3 (by omega), hs 1 (by omega), hs 2 (by omega), hs 3 (by omega)]
theorem oneK_ang {S : List UInt8} {r : Nat} (ha : angK r = true) (h : (writK r).isPrefixOf S = true) : oneK S = some r := by
  obtain ⟨t, rfl⟩ := List.isPrefixOf_iff_prefix.1 h
  exact oneK_writ (ang_key ha) t
theorem oneK_else {S : List UInt8} (h : ∀ r, angK r = true → (writK r).isPrefixOf S = false) : oneK S = if S = [] ∨ S.head? = some 60 ∨ broken (dec S) = true ∨ ¬ keyK (dec S).1 ∨ (dec S).1 < 32 then none else some (dec S).1 := by
  unfold oneK
  have e : (List.range 61).filter (fun r => angK r && (writK r).isPrefixOf S) = [] := by
    rw [List.filter_eq_nil_iff]
    intro r _ hr
    rw [Bool.and_eq_true] at hr
    rw [h r hr.1] at hr
    exact absurd hr.2 (by decide)
  rw [e]
  rfl
/-- a key and its word; 0: none -/
def oneV (o : Option Nat) : Value := match o with | some r => .tuple #[.int .i64 (r : Nat), .string ⟨(writK r).toArray⟩] | none => .tuple #[.int .i64 0, .string ⟨#[]⟩]
theorem ang_of {r : Nat} (h1 : 1 ≤ r) (h2 : r ≤ 27) : angK r = true := decide_eq_true (Or.inl ⟨h1, h2⟩)
end Go.Proofs.Ytbfedakncdodcaa

/-
  Which sign a place lies in, by a reading that has come so far.
-/
import Derived.Test.YtnkhlallnblfmaaUtfText
import Derived.Test.YtnkhlallnblfmaaGlyWhich
namespace Go.Proofs.Ytnkhlallnblfmaa
open Go.RowKit

section
variable {S : List UInt8} {done : List (Nat × Nat)} {a : Nat}
theorem Read.take (h : Read S done a) : (chars S).take done.length = done := by rw [h.all]; simp
theorem Read.at_width (h : Read S done a) : width ((chars S).take done.length) = a := by rw [h.take, h.wide]
theorem Read.len_le (h : Read S done a) : done.length ≤ (chars S).length := by rw [h.all]; simp
theorem Read.len_lt (h : Read S done a) (hlt : a < S.length) : done.length < (chars S).length := by
  have := (h.step hlt).len_le
  simp at this; omega
theorem Read.take_succ (h : Read S done a) (hlt : a < S.length) : (chars S).take (done.length + 1) = done ++ [dec (S.drop a)] := by
  have := (h.step hlt).take
  simpa using this
theorem Read.next_width (h : Read S done a) (hlt : a < S.length) : width ((chars S).take (done.length + 1)) = a + (dec (S.drop a)).2 := by
  rw [h.take_succ hlt, (h.step hlt).wide]
theorem Read.getD (h : Read S done a) (hlt : a < S.length) : (chars S).getD done.length (0, 0) = dec (S.drop a) := by
  rw [h.all, chars_cons (drop_ne hlt)]
  simp [List.getD]
theorem Read.ahead (h : Read S done a) {p : Int} (hp : done ≠ [] → (a : Int) ≤ p) : ∀ j, j < done.length → ((width ((chars S).take (j + 1)) : Nat) : Int) ≤ p := by
  intro j hj
  have h1 := width_take_mono (chars S) (show j + 1 ≤ done.length by omega)
  rw [h.at_width] at h1
  have := hp (by intro e; subst e; simp at hj)
  omega
/-- the place lies in the sign that stands next -/
theorem Read.which_here (h : Read S done a) (hlt : a < S.length) {p : Int} (hp : done ≠ [] → (a : Int) ≤ p) (hq : p < ((a + (dec (S.drop a)).2 : Nat) : Int)) : Which (chars S) p done.length :=
  ⟨h.len_le, h.ahead hp, fun _ => by rw [h.next_width hlt]; exact hq⟩
/-- the place lies behind all signs -/
theorem Read.which_end (h : Read S done a) (hge : S.length ≤ a) {p : Int} (hp : done ≠ [] → (a : Int) ≤ p) : Which (chars S) p done.length :=
  ⟨h.len_le, h.ahead hp, fun hl => by have := congrArg List.length (h.end_ hge); omega⟩
theorem which_neg (S : List UInt8) {p : Int} (hp : p < 0) : Which (chars S) p 0 :=
  ⟨Nat.zero_le _, fun j hj => absurd hj (by omega), fun _ => by omega⟩
theorem which_behind (S : List UInt8) {p : Int} (hp : (S.length : Int) ≤ p) : Which (chars S) p (chars S).length :=
  ⟨Nat.le_refl _, fun j _ => by have := width_le_take (chars S) (j + 1); rw [width_chars] at this; omega, fun h => absurd h (by omega)⟩
theorem width_all (S : List UInt8) : width ((chars S).take (chars S).length) = S.length := by rw [List.take_length, width_chars]
/-- the sign of a place, by where it begins: a reading that ends there -/
theorem Which.read {p : Int} {i : Nat} (h : Which (chars S) p i) : Read S ((chars S).take i) (width ((chars S).take i)) := by
  have key : ∀ i, i ≤ (chars S).length → Read S ((chars S).take i) (width ((chars S).take i)) := by
    intro i
    induction i with
    | zero => intro _; simpa [width] using Read.start S
    | succ i ih =>
      intro hi
      have hr := ih (by omega)
      have hl : ((chars S).take i).length = i := by rw [List.length_take]; omega
      have hlt : width ((chars S).take i) < S.length := by
        rcases Nat.lt_or_ge (width ((chars S).take i)) S.length with h | h
        · exact h
        · have := congrArg List.length (hr.end_ h); omega
      have h1 := hr.step hlt
      have h2 := hr.take_succ hlt
      have h3 := hr.next_width hlt
      rw [hl] at h2 h3
      rw [h3, h2]
      exact h1
  exact key i h.le
end
end Go.Proofs.Ytnkhlallnblfmaa

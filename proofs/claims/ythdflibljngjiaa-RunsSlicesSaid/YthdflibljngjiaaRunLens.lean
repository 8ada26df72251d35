/-
  How long the answers of layer 3 are, and what they hold.
-/
import Derived.Test.YthdflibljngjiaaRunCat
namespace Go.Proofs.Ythdflibljngjiaa
open Go.RowKit

theorem pack_small {b : List Nat} (h : b.length ≤ 4096) : (pack b).length ≤ maxLen := by have := pack_len b; unfold maxLen; omega
theorem normalOf_len (l : List RunP) : (normalOf l).1.length ≤ maxLen := by
  unfold normalOf
  split
  · simp
  · split
    · next h => exact pack_small (by rw [bytesOf_len]; exact h)
    · simp
theorem sliceOf_len (l : List RunP) (f t : Int) : (sliceOf l f t).1.length ≤ maxLen := by
  unfold sliceOf
  split
  · next h =>
    obtain ⟨_, h0, h1, h2, h3, _⟩ := within_of h
    have := cut_len h0 h1 h2
    exact pack_small (by omega)
  · simp
theorem catOf_len (a b : List RunP) : (catOf a b).1.length ≤ maxLen := by
  unfold catOf
  split
  · split
    · next h => exact pack_small (by rw [List.length_append]; exact h)
    · simp
  · simp
theorem splice_size {b m : List Nat} {f t : Int} (h0 : 0 ≤ f) (h1 : f ≤ t) (h2 : t ≤ (b.length : Int)) : ((b.take f.toNat ++ m ++ b.drop t.toNat).length : Int) = (b.length : Int) - (t - f) + m.length := by
  rw [List.length_append, List.length_append, List.length_take, List.length_drop]; omega
theorem spliceOf_len (l : List RunP) (f t : Int) (m : List RunP) : (spliceOf l f t m).1.length ≤ maxLen := by
  unfold spliceOf
  split
  · next hw =>
    split
    · next h =>
      obtain ⟨_, h0, h1, h2, h3, _⟩ := within_of hw.1
      have := splice_size (m := bytesOf m) h0 h1 h2
      exact pack_small (by omega)
    · simp
  · simp
theorem raiseOf_len (l : List RunP) (f t : Int) (y : Nat) : (raiseOf l f t y).1.length ≤ maxLen := by
  unfold raiseOf
  split
  · next hw =>
    obtain ⟨_, h0, h1, h2, h3, _⟩ := within_of hw
    have := splice_size (m := (cut (bytesOf l) f t).map fun x => x ||| y) h0 h1 h2
    have := cut_len h0 h1 h2
    rw [List.length_map] at *
    exact pack_small (by omega)
  · simp
/-- what is packed fits -/
theorem fits_pack {b : List Nat} (hb : ∀ x ∈ b, x < 18446744073709551616) (hl : b.length ≤ 4096) : Fits (pack b) := by
  intro r hr
  have hn := neat_pack b
  have e := bytesOf_pack b
  obtain ⟨k, hk, rfl⟩ := List.getElem_of_mem hr
  have hs : sumN (pack b) = b.length := sumN_pack b
  have h1 := sumN_succ (pack b) k hk
  have h2 := sumN_take_le (pack b) (k + 1)
  have hp : 1 ≤ (pack b)[k].2 := by
    have key : ∀ l : List RunP, Neat l → ∀ r ∈ l, 1 ≤ r.2 := by
      intro l hl
      induction hl with
      | nil => intro r hr; simp at hr
      | one r h => intro q hq; simp at hq; subst hq; exact h
      | snoc l r s _ h _ ih =>
        intro q hq
        rcases List.mem_append.1 hq with h1 | h1
        · exact ih q h1
        · simp at h1; subst h1; exact h
    exact key _ hn _ hr
  have hm : (pack b)[k].1 ∈ bytesOf (pack b) := by
    unfold bytesOf
    exact List.mem_flatMap.2 ⟨_, hr, List.mem_replicate.2 ⟨by omega, rfl⟩⟩
  rw [e] at hm
  exact ⟨hb _ hm, by omega, by omega⟩
end Go.Proofs.Ythdflibljngjiaa

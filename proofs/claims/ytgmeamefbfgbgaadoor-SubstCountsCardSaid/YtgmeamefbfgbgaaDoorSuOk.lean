/-
  What substitutions and edits of good texts answer fits: layer 15.
-/
import Derived.Test.YtgmeamefbfgbgaaDoorSuSwap
import Derived.Test.YtgmeamefbfgbgaaDoorSuSays
namespace Go.Proofs.YtgmeamefbfgbgaaDoor
open Go.RowKit

/-- what a substitution answers fits -/
theorem okS {S : List UInt8} {l : List RunP} {y : Nat} {a b : Int} {pat rep : List UInt8} {ev : Bool} {e : EdP} {n er : Nat} (hf : Fits l) (hy : y < 18446744073709551616) (h : subS S l y a b pat rep ev = ((e, n), er)) : OkT ((e.S, e.l), 0) ∧ OkT ((e.X, e.m), 0) := by
  by_cases h0 : er = 0
  · subst h0
    obtain ⟨a', b', V, P, rfl, rfl, hP, H⟩ := subS_zero (by rw [h])
    rw [subS_ok H hP] at h
    injection h with h _
    injection h with he _
    subst he
    have g := goodT_size H.g
    have hle := H.le
    have h1 := H.len S rep rfl rfl
    have h2 := H.len (bytesOf l) (List.replicate rep.length y) H.lab List.length_replicate
    have h3 := (H.short h1).1
    refine ⟨okT_pack (by rw [H.cutLen S rfl]; omega) (fun v hv => bytesOf_mem hf v (List.mem_of_mem_drop (List.mem_of_mem_take hv))) (by rw [H.cutLen _ H.lab]; omega), okT_pack h3 (fun v hv => ?_) (by omega)⟩
    rcases puts_mem P _ _ v hv with h | h
    · exact bytesOf_mem hf v (List.mem_of_mem_drop (List.mem_of_mem_take h))
    · rw [(List.mem_replicate.1 h).2]; exact hy
  · have := subS_err (S := S) (l := l) (y := y) (A := a) (B := b) (pat := pat) (rep := rep) (every := ev) (by rw [h]; exact h0)
    rw [h] at this
    injection this with he _
    subst he
    exact ⟨okT_nil 0, okT_nil 0⟩
theorem okS_small {S : List UInt8} {l : List RunP} {a : Int} {U X : List UInt8} {q m : List RunP} {V : List UInt8} {r : List RunP} (h : applyE S l a U q X m = ((V, r), 0)) : r.length ≤ 5000 := by
  have hm := applyE_made (S := S) (l := l) (a := a) (U := U) (q := q) (X := X) (m := m) (by rw [h])
  rw [h] at hm
  obtain ⟨hg, _, P, Q, p, s, _, _, _, h1, h2, _, h3, _, h4⟩ := hm
  have gX := (goodT_iff X m).1 ((goodE_iff a U X q m).1 hg).2.1
  have := pack_len (p ++ bytesOf m ++ s)
  rw [List.length_append, List.length_append, gX.2] at this
  dsimp only at h4
  rw [h4]
  omega
end Go.Proofs.YtgmeamefbfgbgaaDoor

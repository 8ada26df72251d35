/-
  The document's Parse: layer 10.
-/
import Derived.Test.YtbfedakncdodcaaKeyOne
namespace Go.Proofs.Ytbfedakncdodcaa
open Go.RowKit

theorem text_back (s : List UInt8) (k : Nat) : ({ data := s.toArray } : ByteArray).extract k s.length = ⟨(s.drop k).toArray⟩ := by
  apply ByteArray.ext
  rw [ByteArray.data_extract]
  apply Array.ext'
  simp
  exact List.take_of_length_le (by rw [List.length_drop]; omega)
theorem elt_rune : Elt Try.prog 25 21 (.int .i32 0) 1 4 := ⟨Try.underlying25, by kernel_rfl, rfl, by decide⟩
/-- keys and a number -/
def GivesLN (w : World) (r : List Nat × Nat) (e : Ending) (w' : World) : Prop :=
  ∃ A c, e = .returned (.tuple #[.slice A r.1.length c, .int .i64 (r.2 : Nat)]) ∧ Row w' w'.heap.size A ((r.1.map fun x : Nat => (x : Int)).map runz) ∧ Below w.heap.size w w'
/-- keys were read so far -/
structure ReadK (S : List UInt8) (L : List Nat) (p : Nat) : Prop where
  hp : p = (wordsK L).length
  hS : S = wordsK L ++ S.drop p
  keys : ∀ r ∈ L, keyK (r : Nat)
  few : L.length ≤ p
  le : p ≤ S.length
theorem readK_start (S : List UInt8) : ReadK S [] 0 := ⟨rfl, rfl, fun r hr => by simp at hr, Nat.le_refl _, Nat.zero_le _⟩
theorem ReadK.step {S : List UInt8} {L : List Nat} {p r : Nat} (h : ReadK S L p) (ho : oneK (S.drop p) = some r) : ReadK S (L ++ [r]) (p + (writK r).length) := by
  obtain ⟨k1, k2⟩ := oneK_some ho
  have hw := writK_len r
  have e : S = wordsK (L ++ [r]) ++ S.drop (p + (writK r).length) := by
    have h1 := h.hS
    rw [k2, List.drop_drop] at h1
    rw [wordsK_snoc, List.append_assoc]
    exact h1
  refine ⟨by rw [wordsK_snoc, List.length_append, ← h.hp], e, fun x hx => ?_, by have := h.few; simp; omega, ?_⟩
  · rcases List.mem_append.1 hx with hx | hx
    · exact h.keys x hx
    · rw [List.mem_singleton.1 hx]; exact k1
  · have := congrArg List.length e
    rw [wordsK_snoc, List.length_append, List.length_append, ← h.hp] at this
    omega
theorem keysK_words_app {L : List Nat} (h : ∀ r ∈ L, keyK (r : Nat)) (T : List UInt8) : keysK (wordsK L ++ T) = (keysK T).map (L ++ ·) := by
  induction L with
  | nil => simp [wordsK]
  | cons r L ih =>
    have e : wordsK (r :: L) ++ T = writK r ++ (wordsK L ++ T) := by simp [wordsK]
    rw [e, keysK_step (oneK_writ (h r (List.mem_cons_self ..)) _), List.drop_left, ih (fun x hx => h x (List.mem_cons_of_mem _ hx))]
    rw [Option.map_map]
    rfl
theorem ReadK.done {S : List UInt8} {L : List Nat} (h : ReadK S L S.length) : parseA S = if L.length ≤ 256 then (L, 0) else ([], 3) := by
  have e : keysK S = some L := by
    have h1 := h.hS
    rw [List.drop_length, List.append_nil] at h1
    rw [h1]
    exact keysK_words h.keys
  unfold parseA
  rw [e]
theorem ReadK.bad {S : List UInt8} {L : List Nat} {p : Nat} (h : ReadK S L p) (hp : p < S.length) (ho : oneK (S.drop p) = none) : parseA S = ([], 5) := by
  have hne : S.drop p ≠ [] := by intro e; have := congrArg List.length e; simp at this; omega
  have e : keysK S = none := by
    rw [h.hS, keysK_words_app h.keys, keysK_none hne ho]
    rfl
  unfold parseA
  rw [e]
end Go.Proofs.Ytbfedakncdodcaa

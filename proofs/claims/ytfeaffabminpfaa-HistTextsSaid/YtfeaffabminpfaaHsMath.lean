/-
  The document's histories as plain lists of states; rows of elements of several cells: layer 8.
-/
import Derived.Test.YtfeaffabminpfaaEdiRefs
import Derived.Test.YtfeaffabminpfaaPieMem
namespace Go.Proofs.Ytfeaffabminpfaa
open Go.RowKit

section
variable {α : Type} (f : α → List Value) (K : Nat) (hK : ∀ x, (f x).length = K)
include hK
/-- elements of K cells each, one behind the other -/
theorem cellsG_len (l : List α) : (l.flatMap f).length = l.length * K := by
  induction l with
  | nil => simp
  | cons r l ih => rw [List.flatMap_cons, List.length_append, ih, hK, List.length_cons, Nat.add_mul, Nat.one_mul, Nat.add_comm]
theorem cellsG_get (l : List α) (k : Nat) (hk : k < l.length) (j : Nat) (hj : j < K) : (l.flatMap f)[k * K + j]? = (f l[k])[j]? := by
  induction l generalizing k with
  | nil => simp at hk
  | cons r l ih =>
    cases k with
    | zero =>
      simp only [List.flatMap_cons, Nat.zero_mul, Nat.zero_add, List.getElem_cons_zero]
      rw [List.getElem?_append_left (by rw [hK]; exact hj)]
    | succ k =>
      simp only [List.flatMap_cons, List.getElem_cons_succ]
      rw [List.getElem?_append_right (by rw [hK, Nat.add_mul]; omega), show (k + 1) * K + j - (f r).length = k * K + j by rw [hK, Nat.add_mul]; omega]
      exact ih k (by simpa using hk)
omit hK in
theorem addG (ad : Addr) (n j : Nat) (hj : 0 < j) : ad.add (n + j) = ⟨(ad.add n).block, (ad.add n).off + j, none⟩ := by
  unfold Addr.add
  by_cases hn : n = 0
  · subst hn; simp; omega
  · simp [hn]; omega
theorem cellsG_at {w : World} {B : Nat} {A : Option Addr} {l : List α} (hpos : 0 < K) (h : Row w B A (l.flatMap f)) {k : Nat} (hk : k < l.length) :
    ∃ ad, A = some ad ∧ ad.block < B ∧ (w.cell? (ad.add (k * K)) = (f l[k])[0]?) ∧ ∀ j, 0 < j → j < K → w.cell? ⟨(ad.add (k * K)).block, (ad.add (k * K)).off + j, none⟩ = (f l[k])[j]? := by
  rcases h with h | ⟨ad, rfl, hb, hc⟩
  · have := congrArg List.length h
    rw [cellsG_len f K hK] at this
    have := Nat.mul_pos (show 0 < l.length by omega) hpos
    simp at *; omega
  · have key : ∀ j, j < K → w.cell? (ad.add (k * K + j)) = (f l[k])[j]? := fun j hj => by
      have g := cellsG_get f K hK l k hk j hj
      have hjl : j < (f l[k]).length := by rw [hK]; exact hj
      rw [List.getElem?_eq_getElem hjl] at g ⊢
      exact hc _ _ g
    refine ⟨ad, rfl, hb, by have := key 0 hpos; rwa [Nat.add_zero] at this, fun j h0 hj => ?_⟩
    rw [← addG ad (k * K) j h0]
    exact key j hj
end

/-- an edit as it lies among others: its values, and where its runs lie -/
structure EdV where
  a : Int
  S : List UInt8
  A : Option Addr
  l : List RunP
  c : Nat
  X : List UInt8
  B : Option Addr
  m : List RunP
  d : Nat
/-- a state: its number, the one ahead of it, the edit -/
structure StP where
  n : Int
  up : Int
  e : EdV
def StP.cells (s : StP) : List Value := [.int .i64 s.n, .int .i64 s.up, .int .i64 s.e.a, .string ⟨s.e.S.toArray⟩, .slice s.e.A s.e.l.length s.e.c, .string ⟨s.e.X.toArray⟩, .slice s.e.B s.e.m.length s.e.d]
def flatS (L : List StP) : List Value := L.flatMap StP.cells
theorem stP_len (s : StP) : s.cells.length = 7 := rfl
theorem flatS_len (L : List StP) : (flatS L).length = L.length * 7 := cellsG_len StP.cells 7 stP_len L
theorem flatS_snoc (L : List StP) (s : StP) : flatS (L ++ [s]) = flatS L ++ s.cells := by simp [flatS]
theorem stP_cell (s : StP) : ∀ u ∈ s.cells, u.oneCell' = true := by
  intro u hu
  unfold StP.cells at hu
  simp at hu
  rcases hu with rfl | rfl | rfl | rfl | rfl | rfl | rfl <;> rfl
theorem st_at {w : World} {B : Nat} {A : Option Addr} {L : List StP} (h : Row w B A (flatS L)) {k : Nat} (hk : k < L.length) :
    ∃ ad, A = some ad ∧ ad.block < B ∧ w.cell? (ad.add (k * 7)) = some (.int .i64 L[k].n) ∧ w.cell? ⟨(ad.add (k * 7)).block, (ad.add (k * 7)).off + 1, none⟩ = some (.int .i64 L[k].up) ∧
      w.cell? ⟨(ad.add (k * 7)).block, (ad.add (k * 7)).off + 2, none⟩ = some (.int .i64 L[k].e.a) ∧ w.cell? ⟨(ad.add (k * 7)).block, (ad.add (k * 7)).off + 3, none⟩ = some (.string ⟨L[k].e.S.toArray⟩) ∧
      w.cell? ⟨(ad.add (k * 7)).block, (ad.add (k * 7)).off + 4, none⟩ = some (.slice L[k].e.A L[k].e.l.length L[k].e.c) ∧ w.cell? ⟨(ad.add (k * 7)).block, (ad.add (k * 7)).off + 5, none⟩ = some (.string ⟨L[k].e.X.toArray⟩) ∧
      w.cell? ⟨(ad.add (k * 7)).block, (ad.add (k * 7)).off + 6, none⟩ = some (.slice L[k].e.B L[k].e.m.length L[k].e.d) := by
  obtain ⟨ad, rfl, hb, h0, hj⟩ := cellsG_at StP.cells 7 stP_len (by decide) h hk
  exact ⟨ad, rfl, hb, h0, hj 1 (by decide) (by decide), hj 2 (by decide) (by decide), hj 3 (by decide) (by decide), hj 4 (by decide) (by decide), hj 5 (by decide) (by decide), hj 6 (by decide) (by decide)⟩

def zeroE : EdV := ⟨0, [], none, [], 0, [], none, [], 0⟩
def zeroS : StP := ⟨0, 0, zeroE⟩
/-- the first state of that number -/
def findS : List StP → Int → StP × Bool
  | [], _ => (zeroS, false)
  | s :: L, n => if s.n = n then (s, true) else findS L n
/-- the numbers from a state up, at most so many -/
def backN (L : List StP) : Nat → Int → List Int
  | 0, _ => []
  | k + 1, n => if 0 ≤ n then n :: backN L k (findS L n).1.up else []
def pathS (L : List StP) (now : Int) : List Int := (backN L L.length now).reverse
/-- one state more of those at and behind n -/
def belowStep (n : Int) (out : List StP) (x : StP) : List StP :=
  if x.n = n ∨ (∃ o ∈ out, o.n = x.up) then out ++ [if x.n = n then ⟨x.n, -1, x.e⟩ else x] else out
def belowS (L : List StP) (n : Int) : List StP := L.foldl (belowStep n) []
theorem belowS_succ (L : List StP) (n : Int) (k : Nat) (hk : k < L.length) : belowS (L.take (k + 1)) n = belowStep n (belowS (L.take k) n) L[k] := by
  rw [List.take_succ_eq_append_getElem hk]; unfold belowS; rw [List.foldl_append]; rfl
theorem belowS_len (L : List StP) (n : Int) : (belowS L n).length ≤ L.length := by
  have key : ∀ (L out : List StP), (L.foldl (belowStep n) out).length ≤ out.length + L.length := by
    intro L
    induction L with
    | nil => intro out; simp
    | cons x L ih =>
      intro out
      rw [List.foldl_cons, List.length_cons]
      have h := ih (belowStep n out x)
      have h2 : (belowStep n out x).length ≤ out.length + 1 := by unfold belowStep; split <;> simp
      omega
  have := key L []
  simp at this
  exact this
end Go.Proofs.Ytfeaffabminpfaa

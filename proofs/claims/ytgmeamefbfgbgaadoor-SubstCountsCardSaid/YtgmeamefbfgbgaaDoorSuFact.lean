/-
  What the laws of substitution say of plain texts: layer 15.
-/
import Derived.Test.YtgmeamefbfgbgaaDoorSuMore
namespace Go.Proofs.YtgmeamefbfgbgaaDoor
open Go.RowKit

section
variable {S : List UInt8} {l : List RunP} {y a b : Nat} {pat rep : List UInt8} {every : Bool} {V : List UInt8} {P : List Nat}
/-- how many places there are -/
theorem SubP.pos (h : P ≠ []) : 1 ≤ P.length := by
  cases P with
  | nil => exact absurd rfl h
  | cons p P => simp
/-- how long the text behind is -/
theorem SubP.size (H : SubP S l y a b pat rep every V P) : ((S.take (begL V a) ++ putsL ((S.drop (begL V a)).take (endL V b - begL V a)) (begL V a) pat.length rep P ++ S.drop (endL V b)).length : Int) = (S.length : Int) + (P.length : Int) * ((rep.length : Int) - (pat.length : Int)) := by
  have hl := H.len S rep rfl rfl
  have hle := H.le
  have c1 : ((P.length * pat.length : Nat) : Int) = (P.length : Int) * (pat.length : Int) := Int.natCast_mul _ _
  have c2 : ((P.length * rep.length : Nat) : Int) = (P.length : Int) * (rep.length : Int) := Int.natCast_mul _ _
  rw [Int.mul_sub, List.length_append, List.length_append, List.length_take, List.length_drop]
  generalize P.length * pat.length = u at *
  generalize P.length * rep.length = q at *
  omega
/-- with what is looked for in its own place -/
theorem SubP.itself (H : SubP S l y a b pat pat every V P) : S.take (begL V a) ++ putsL ((S.drop (begL V a)).take (endL V b - begL V a)) (begL V a) pat.length pat P ++ S.drop (endL V b) = S := by
  have hle := H.le
  rw [putsL_same pat rfl P _ _ (H.apartX S rfl) H.mid]
  have := parts3 S (begL V a) (endL V b - begL V a) (by omega)
  rw [show begL V a + (endL V b - begL V a) = endL V b by omega] at this
  exact this.symm
end
theorem putsL_zip {α β : Type} {m : Nat} (r : List α) (r' : List β) (hr : r.length = r'.length) : ∀ (P : List Nat) (x : List α) (x' : List β) (off : Nat), x.length = x'.length → Apart m off (off + x.length) P → putsL (x.zip x') off m (r.zip r') P = (putsL x off m r P).zip (putsL x' off m r' P) := by
  intro P
  induction P with
  | nil => intro x x' off _ _; rfl
  | cons p P ih =>
    intro x x' off hx h
    have hl := h.2.le
    have h1 := h.1
    have hz : (x.zip x').length = x.length := by rw [List.length_zip]; omega
    rw [putsL_first _ (by rw [hz]; exact h), putsL_first r h, putsL_first r' (by rw [← hx]; exact h)]
    have e1 : (x.zip x').take (p - off) = (x.take (p - off)).zip (x'.take (p - off)) := by simp [List.zip, List.take_zipWith]
    have e2 : (x.zip x').drop (p + m - off) = (x.drop (p + m - off)).zip (x'.drop (p + m - off)) := by simp [List.zip, List.drop_zipWith]
    rw [e1, e2, ih _ _ _ (by rw [List.length_drop, List.length_drop, hx]) (by rw [List.length_drop, show p + m + (x.length - (p + m - off)) = off + x.length by omega]; exact h.2)]
    rw [List.zip_append (by rw [List.length_append, List.length_append, List.length_take, List.length_take, hx, hr]), List.zip_append (by rw [List.length_take, List.length_take, hx])]
/-- which line a stretch without a line end lies in -/
theorem in_line {V : List UInt8} {a b k m : Nat} (hab : a ≤ b) (hb : b < countL V) (h1 : begL V a ≤ k) (h2 : k + m ≤ endL V b) (hn : ∀ i, i < m → V[k + i]? ≠ some 10) :
    ∃ n, a ≤ n ∧ n ≤ b ∧ begL V n ≤ k ∧ k + m ≤ endL V n := by
  have hbl := end_le hb
  obtain ⟨p1, p2, p3⟩ := place_line (S := V) (a := k) (by omega)
  generalize (endsTo V k).length = n at *
  refine ⟨n, ?_, ?_, p2, ?_⟩
  · rcases Nat.lt_or_ge n a with h | h
    · have := beg_mono (S := V) (a := n + 1) (b := a) h (by omega)
      rw [beg_succ] at this
      omega
    · exact h
  · rcases Nat.lt_or_ge b n with h | h
    · have := beg_mono (S := V) (a := b + 1) (b := n) h p1
      rw [beg_succ] at this
      omega
    · exact h
  · rcases Nat.lt_or_ge (endL V n) (k + m) with h | h
    · rcases end_is p1 with e | e
      · omega
      · have := hn (endL V n - k) (by omega)
        rw [show k + (endL V n - k) = endL V n by omega] at this
        exact absurd e this
    · exact h
theorem zip_get {α β : Type} {x : List α} {z : List β} {i : Nat} {u : α} {v : β} (h1 : x[i]? = some u) (h2 : z[i]? = some v) : (x.zip z)[i]? = some (u, v) := by
  rw [List.getElem?_zip_eq_some]
  exact ⟨h1, h2⟩
theorem get_zip {α β : Type} {x : List α} {z : List β} {i : Nat} {u : α} {v : β} (h : (x.zip z)[i]? = some (u, v)) : x[i]? = some u ∧ z[i]? = some v := List.getElem?_zip_eq_some.1 h
theorem pat_nl {pat : List UInt8} (h : countL pat = 1) {i : Nat} : pat[i]? ≠ some 10 := by
  intro e
  have := List.count_eq_zero.1 (nl_count h)
  exact this (List.mem_of_getElem? e)
/-- where what comes has no byte of what is looked for, nothing that is looked for is left -/
theorem SubP.none_left {S : List UInt8} {l : List RunP} {y a b : Nat} {pat rep : List UInt8} {V : List UInt8} {P : List Nat} (H : SubP S l y a b pat rep true V P) (hr0 : 0 < rep.length) (hr : ∀ x ∈ rep, x ∉ pat ∧ x ≠ 10) {U V' : List UInt8} {UL : List Nat}
    (hU : S.take (begL V a) ++ putsL ((S.drop (begL V a)).take (endL V b - begL V a)) (begL V a) pat.length rep P ++ S.drop (endL V b) = U)
    (hUL : (bytesOf l).take (begL V a) ++ putsL (((bytesOf l).drop (begL V a)).take (endL V b - begL V a)) (begL V a) pat.length (List.replicate rep.length y) P ++ (bytesOf l).drop (endL V b) = UL)
    (hV : viewTo U UL y = V') : countL V' = countL V ∧ placesL U V' UL y pat true a (b + 1 - a) = [] := by
  have hle := H.le
  have hl := H.lab
  have hvl := H.vl
  have hvb := H.viewB
  rw [hU, hUL, hV] at hvb
  obtain ⟨c1, c2, c3⟩ := H.lines (List.count_eq_zero.2 fun hx => (hr _ hx).2 rfl) rfl hvb.symm
  refine ⟨c1, List.eq_nil_iff_forall_not_mem.2 fun p hp => ?_⟩
  have n1 := H.len S rep rfl rfl
  have n2 := H.len (bytesOf l) (List.replicate rep.length y) hl List.length_replicate
  have n3 := H.len V rep hvl rfl
  have hab := H.ab
  have hbc := H.bc
  have e1 : (S.take (begL V a)).length = begL V a := by rw [List.length_take]; omega
  have e2 : ((bytesOf l).take (begL V a)).length = begL V a := by rw [List.length_take]; omega
  have hap := (placesL_apart (S := U) (V := V') (L := UL) (y := y) (pat := pat) (every := true) (A := a) (b - a) (by omega)).mem p (by rw [show b - a + 1 = b + 1 - a by omega]; exact hp)
  rw [show a + (b - a) = b by omega, c2, c3] at hap
  obtain ⟨n, _, _, hs⟩ := placesL_stand _ p hp
  have hst := ((standsS_iff _ _ _ _ _ _).1 hs).2
  have hz := putsL_zip rep (List.replicate rep.length y) List.length_replicate.symm P ((S.drop (begL V a)).take (endL V b - begL V a)) (((bytesOf l).drop (begL V a)).take (endL V b - begL V a)) (begL V a) (by rw [H.cutLen S rfl, H.cutLen _ hl]) (H.apartX S rfl)
  have hzl : (((S.drop (begL V a)).take (endL V b - begL V a)).zip (((bytesOf l).drop (begL V a)).take (endL V b - begL V a))).length = endL V b - begL V a := by rw [List.length_zip, H.cutLen S rfl, H.cutLen _ hl]; omega
  have hw := putsL_window (rep.zip (List.replicate rep.length y)) (fun x => x.1 ∉ pat) (fun x hx => (hr _ (List.of_mem_zip hx).1).1) (by rw [List.length_zip, List.length_replicate]; omega) P (((S.drop (begL V a)).take (endL V b - begL V a)).zip (((bytesOf l).drop (begL V a)).take (endL V b - begL V a))) (begL V a) (p - begL V a) pat.length
    (by rw [hzl, show begL V a + (endL V b - begL V a) = endL V b by omega]; exact H.apart) H.m
  rw [hz, hzl] at hw
  generalize putsL ((S.drop (begL V a)).take (endL V b - begL V a)) (begL V a) pat.length rep P = xs at *
  generalize putsL (((bytesOf l).drop (begL V a)).take (endL V b - begL V a)) (begL V a) pat.length (List.replicate rep.length y) P = xl at *
  generalize putsL ((V.drop (begL V a)).take (endL V b - begL V a)) (begL V a) pat.length rep P = xv at *
  have hxs : ∀ i, i < pat.length → ∃ v, (xs.zip xl)[p - begL V a + i]? = some (pat.getD i 0, v) ∧ subB v y = true ∧ pat[i]? = some (pat.getD i 0) := by
    intro i hi
    obtain ⟨s1, s2⟩ := hst i hi
    have f1 : pat[i]? = some (pat.getD i 0) := by simp [List.getD, List.getElem?_eq_getElem hi]
    have g1 : xs[p - begL V a + i]? = U[p + i]? := by
      rw [← hU, List.getElem?_append_left (by rw [List.length_append, e1]; omega), List.getElem?_append_right (by rw [e1]; omega), e1]
      congr 1; omega
    have g2 : xl[p - begL V a + i]? = UL[p + i]? := by
      rw [← hUL, List.getElem?_append_left (by rw [List.length_append, e2]; omega), List.getElem?_append_right (by rw [e2]; omega), e2]
      congr 1; omega
    have g3 : xl[p - begL V a + i]? = some (UL.getD (p + i) 0) := by
      rw [List.getD, ← g2, List.getElem?_eq_getElem (by omega)]; rfl
    exact ⟨UL.getD (p + i) 0, zip_get (by rw [g1, s1, f1]) g3, s2, f1⟩
  obtain ⟨k, k1, k2, k3, k4⟩ := hw (by rw [List.length_zip]; omega) (fun i v hi hv => by
    obtain ⟨u, z1, _, z3⟩ := hxs i hi
    rw [z1] at hv
    injection hv with hv
    rw [← hv]
    exact fun hq => hq (List.mem_of_getElem? z3))
  have hk : ∀ i, i < pat.length → S[k + i]? = pat[i]? ∧ subB ((bytesOf l).getD (k + i) 0) y = true := by
    intro i hi
    obtain ⟨v, z1, z2, z3⟩ := hxs i hi
    rw [k3 i hi] at z1
    obtain ⟨z4, z5⟩ := get_zip z1
    rw [List.getElem?_take_of_lt (by omega), List.getElem?_drop, show begL V a + (k - begL V a + i) = k + i by omega] at z4 z5
    exact ⟨by rw [z4, z3], by rw [List.getD, z5]; exact z2⟩
  obtain ⟨n', m1, m2, m3, m4⟩ := in_line hab hbc k1 (show k + pat.length ≤ endL V b by omega) (fun i hi => by
    obtain ⟨q1, q2⟩ := hk i hi
    rw [H.v, view_seen hl q2, q1]
    exact pat_nl H.nl)
  obtain ⟨q, hq, q1, q2⟩ := placesL_full (S := S) (L := bytesOf l) (y := y) H.m m1 (show n' < a + (b + 1 - a) by omega) m3 ((standsS_iff _ _ _ _ _ _).2 ⟨m4, hk⟩)
  rw [← H.p] at hq
  have := k4 q hq
  omega
theorem subS_none {S : List UInt8} {l : List RunP} {y a b : Nat} {pat rep : List UInt8} {every : Bool} {V : List UInt8} (hg : goodT S l = true) (hV : viewTo S (bytesOf l) y = V) (hm : mayS V (a : Int) (b : Int) pat rep = true) (hp : placesL S V (bytesOf l) y pat every a (b + 1 - a) = []) : (subS S l y (a : Int) (b : Int) pat rep every).2 = 6 := by
  have hv : viewOf S l y = (V, 0) := by unfold viewOf; rw [if_pos hg, hV]
  unfold subS
  rw [hv]
  dsimp only
  rw [if_neg (by rw [hm]; simp), Int.toNat_natCast, Int.toNat_natCast, hp, if_pos rfl]
end Go.Proofs.YtgmeamefbfgbgaaDoor

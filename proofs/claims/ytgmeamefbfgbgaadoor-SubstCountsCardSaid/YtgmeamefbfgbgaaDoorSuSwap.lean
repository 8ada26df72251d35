/-
  A sign that stands nowhere in place of a text, and that text in its place again, as plain facts: layer 15, WholeSwaps.
-/
import Derived.Test.YtgmeamefbfgbgaaDoorSuHide
namespace Go.Proofs.YtgmeamefbfgbgaaDoor
open Go.RowKit

section
variable {α : Type} [BEq α] [LawfulBEq α]
/-- a list in place of an element -/
def subE (c : α) (r : List α) (v : α) : List α := if v == c then r else [v]
theorem flat_none (c : α) (r : List α) : ∀ x : List α, c ∉ x → x.flatMap (subE c r) = x := by
  intro x
  induction x with
  | nil => intro _; rfl
  | cons v x ih =>
    intro h
    rw [List.mem_cons, not_or] at h
    rw [List.flatMap_cons, ih h.2]
    unfold subE
    rw [if_neg (by simpa using fun e => h.1 e.symm)]
    rfl
theorem flat_one (c : α) (r : List α) : [c].flatMap (subE c r) = r := by simp [subE]
/-- all places of an element -/
theorem puts_all {r : List α} {c : α} : ∀ (P : List Nat) (x : List α) (off : Nat), Apart 1 off (off + x.length) P → (∀ a, off ≤ a → (a ∈ P ↔ x[a - off]? = some c)) → putsL x off 1 r P = x.flatMap (subE c r) ∧ P.length = x.count c := by
  intro P
  induction P with
  | nil =>
    intro x off _ h
    have hn : c ∉ x := fun hc => by
      obtain ⟨i, hi⟩ := List.mem_iff_getElem?.1 hc
      have := (h (off + i) (by omega)).2 (by rw [show off + i - off = i by omega]; exact hi)
      simp at this
    exact ⟨(flat_none c r x hn).symm, (List.count_eq_zero.2 hn).symm⟩
  | cons p P ih =>
    intro x off h hm
    have hl := h.2.le
    have h1 := h.1
    have hc : x[p - off]? = some c := (hm p h1).1 List.mem_cons_self
    have ht : c ∉ x.take (p - off) := fun hc => by
      obtain ⟨i, hi⟩ := List.mem_iff_getElem?.1 hc
      have hlt : i < p - off := by
        rcases Nat.lt_or_ge i (p - off) with h2 | h2
        · exact h2
        · rw [List.getElem?_eq_none (by rw [List.length_take]; omega)] at hi; cases hi
      rw [List.getElem?_take_of_lt hlt] at hi
      have hmem := (hm (off + i) (by omega)).2 (by rw [show off + i - off = i by omega]; exact hi)
      rcases List.mem_cons.1 hmem with e | e
      · omega
      · have := h.2.mem _ e; omega
    have hx : x = x.take (p - off) ++ [c] ++ x.drop (p + 1 - off) := by
      have e1 := List.take_append_drop (p - off) x
      have e2 : x.drop (p - off) = c :: x.drop (p + 1 - off) := by
        obtain ⟨hlt, he⟩ := List.getElem?_eq_some_iff.1 hc
        rw [List.drop_eq_getElem_cons hlt, he, show p + 1 - off = p - off + 1 by omega]
      rw [e2] at e1
      simpa using e1.symm
    obtain ⟨i1, i2⟩ := ih (x.drop (p + 1 - off)) (p + 1) (by rw [List.length_drop, show p + 1 + (x.length - (p + 1 - off)) = off + x.length by omega]; exact h.2) (fun a ha => by
      rw [List.getElem?_drop, show p + 1 - off + (a - (p + 1)) = a - off by omega, ← hm a (by omega), List.mem_cons]
      exact ⟨fun e => .inr e, fun e => e.elim (fun e => by omega) id⟩)
    rw [putsL_first r h, i1]
    constructor
    · conv => rhs; rw [hx]
      rw [List.flatMap_append, List.flatMap_append, flat_one, flat_none c r _ ht]
    · conv => rhs; rw [hx]
      rw [List.count_append, List.count_append, List.count_eq_zero.2 ht, ← i2]
      simp; omega
/-- what was put is found again -/
theorem puts_flat {m : Nat} {c : α} {r : List α} : ∀ (P : List Nat) (x : List α) (off : Nat), Apart m off (off + x.length) P → c ∉ x → (putsL x off m [c] P).flatMap (subE c r) = putsL x off m r P := by
  intro P
  induction P with
  | nil => intro x off _ h; exact flat_none c r x h
  | cons p P ih =>
    intro x off h hc
    have hl := h.2.le
    have h1 := h.1
    rw [putsL_first [c] h, putsL_first r h, List.flatMap_append, List.flatMap_append, flat_one, flat_none c r _ (fun e => hc (List.mem_of_mem_take e)), ih _ _ (by rw [List.length_drop, show p + m + (x.length - (p + m - off)) = off + x.length by omega]; exact h.2) (fun e => hc (List.mem_of_mem_drop e))]
omit [BEq α] [LawfulBEq α] in
theorem puts_mem {m : Nat} {r : List α} : ∀ (P : List Nat) (x : List α) (off : Nat), ∀ z ∈ putsL x off m r P, z ∈ x ∨ z ∈ r := by
  intro P
  induction P with
  | nil => intro x off z hz; exact .inl hz
  | cons p P ih =>
    intro x off z hz
    rw [putsL_cons] at hz
    unfold putL at hz
    rcases List.mem_append.1 hz with hz | hz
    · rcases List.mem_append.1 hz with hz | hz
      · exact ih x off z (List.mem_of_mem_take hz)
      · exact .inr hz
    · exact ih x off z (List.mem_of_mem_drop hz)
end
/-- the second substitution of WholeSwaps -/
theorem SubP.swaps {S : List UInt8} {l : List RunP} {y b : Nat} {pat : List UInt8} {V : List UInt8} {P : List Nat} (H : SubP S l y 0 b pat [1] true V P) (hb : b + 1 = countL V) (h1 : (1 : UInt8) ∉ S) (hp : pat.length ≤ 4096) :
    ∃ U q V' P', applyE S l (begL V 0 : Nat) ((S.drop (begL V 0)).take (endL V b - begL V 0)) (pack (((bytesOf l).drop (begL V 0)).take (endL V b - begL V 0))) (putsL ((S.drop (begL V 0)).take (endL V b - begL V 0)) (begL V 0) pat.length [1] P) (pack (putsL (((bytesOf l).drop (begL V 0)).take (endL V b - begL V 0)) (begL V 0) pat.length (List.replicate [(1 : UInt8)].length y) P)) = ((U, q), 0) ∧
      SubP U q y 0 b [1] pat true V' P' ∧ P'.length = P.length ∧ U.take (begL V' 0) ++ putsL ((U.drop (begL V' 0)).take (endL V' b - begL V' 0)) (begL V' 0) [(1 : UInt8)].length pat P' ++ U.drop (endL V' b) = S := by
  have hle := H.le
  have hl := H.lab
  have hvl := H.vl
  have hf : begL V 0 = 0 := beg_zero V
  have ht : endL V b = S.length := by rw [ends_last hb, hvl]
  have e1 : (S.drop 0).take (S.length - 0) = S := by simp
  have e2 : ((bytesOf l).drop 0).take (S.length - 0) = bytesOf l := by rw [← hl]; simp
  have e3 : (V.drop 0).take (S.length - 0) = V := by rw [← hvl]; simp
  have ha := H.apply rfl rfl
  have hvb := H.viewB
  obtain ⟨c1, c2, c3⟩ := H.lines (by decide) rfl hvb.symm
  have hap := H.apartX S rfl
  have hmid := H.mid
  have n1 := H.len S [1] rfl rfl
  have n2 := H.len (bytesOf l) (List.replicate [(1 : UInt8)].length y) hl List.length_replicate
  have n3 := H.len V [1] hvl rfl
  have hgX := H.goodX
  rw [hf, ht] at ha hvb c1 c2 c3 hap n1 n2 n3 hgX hmid
  rw [hf, ht]
  simp only [e1, e2, e3] at ha hvb c1 c2 c3 n1 n2 n3 hgX hap hmid ⊢
  have t1 : ∀ x : List UInt8, S.take 0 ++ x ++ S.drop S.length = x := by simp
  have t2 : ∀ x : List Nat, (bytesOf l).take 0 ++ x ++ (bytesOf l).drop S.length = x := by rw [← hl]; simp
  simp only [t1, t2] at ha hvb c1 c2 c3
  have hcnt : (putsL S 0 pat.length [1] P).count 1 = P.length := by
    rw [putsL_count [(1 : UInt8)] 1 P S 0 hap (fun p hp => by
      rw [hmid p hp]
      exact List.count_eq_zero.2 fun hc => h1 (by rw [← hmid p hp] at hc; exact List.mem_of_mem_drop (List.mem_of_mem_take hc)))]
    rw [List.count_eq_zero.2 h1]
    simp
  have hflat := puts_flat (r := pat) P S 0 hap h1
  rw [putsL_same pat rfl P S 0 hap hmid] at hflat
  have hz := putsL_zip [(1 : UInt8)] (List.replicate [(1 : UInt8)].length y) rfl P S (bytesOf l) 0 hl.symm hap
  have hmem := puts_mem (r := [(1 : UInt8)].zip (List.replicate [(1 : UInt8)].length y)) (m := pat.length) P (S.zip (bytesOf l)) 0
  rw [hz] at hmem
  have hsz := H.fit
  have gs := goodT_size H.g
  generalize putsL S 0 pat.length [1] P = U at *
  generalize putsL (bytesOf l) 0 pat.length (List.replicate [(1 : UInt8)].length y) P = UL at *
  generalize hV' : viewTo U UL y = V' at *
  have hUL : UL.length = U.length := by omega
  have hvl' : V'.length = U.length := by rw [← hV', viewTo_len hUL]
  have hbc : b < countL V' := by rw [c1]; exact H.bc
  have hf' : begL V' 0 = 0 := beg_zero V'
  have ht' : endL V' b = U.length := by rw [ends_last (by rw [c1]; exact hb), hvl']
  have hq : bytesOf (pack UL) = UL := bytesOf_pack UL
  have hapP := placesL_apart (S := U) (V := V') (L := UL) (y := y) (pat := [1]) (every := true) (A := 0) b (by rw [Nat.zero_add]; exact hbc)
  rw [Nat.zero_add, hf', ht'] at hapP
  have hall : ∀ a, 0 ≤ a → (a ∈ placesL U V' UL y [1] true 0 (b + 1) ↔ U[a - 0]? = some 1) := by
    intro a _
    rw [Nat.sub_zero]
    constructor
    · intro hm
      obtain ⟨n, _, _, hs⟩ := placesL_stand _ a hm
      exact (((standsS_iff _ _ _ _ _ _).1 hs).2 0 (by simp)).1
    · intro hu
      obtain ⟨hlt, hu'⟩ := List.getElem?_eq_some_iff.1 hu
      have hv : UL[a]? = some y := by
        have g1 : UL[a]? = some (UL[a]'(by omega)) := List.getElem?_eq_getElem (by omega)
        rcases hmem _ (List.mem_of_getElem? (zip_get hu g1)) with hm | hm
        · exact absurd (List.of_mem_zip hm).1 h1
        · have := (List.of_mem_zip hm).2
          rw [g1, (List.mem_replicate.1 this).2]
      have hd : UL.getD a 0 = y := by rw [List.getD, hv]; rfl
      have hs : subB (UL.getD a 0) y = true := by rw [hd]; exact subB_self y
      obtain ⟨n, m1, m2, m3, m4⟩ := in_line (V := V') (a := 0) (b := b) (k := a) (m := 1) (Nat.zero_le _) hbc (by rw [hf']; exact Nat.zero_le _) (by rw [ht']; exact hlt) (fun i hi => by
        obtain rfl : i = 0 := by omega
        rw [Nat.add_zero, ← hV', view_seen hUL hs, hu]
        decide)
      obtain ⟨p, q1, q2, q3⟩ := placesL_full (S := U) (V := V') (L := UL) (y := y) (pat := [1]) (A := 0) (k := b + 1) (n := n) (b := a) (by simp) (Nat.zero_le _) (by omega) m3 ((standsS_iff _ _ _ _ _ _).2 ⟨m4, fun i hi => by
        obtain rfl : i = 0 := by simpa using hi
        exact ⟨hu, hs⟩⟩)
      simp at q2 q3
      obtain rfl : p = a := by omega
      exact q1
  obtain ⟨w1, w2⟩ := puts_all (r := pat) (c := (1 : UInt8)) _ U 0 (by rw [Nat.zero_add]; exact hapP) hall
  rw [hcnt] at w2
  refine ⟨U, pack UL, V', placesL U V' UL y [1] true 0 (b + 1), ha, ⟨hgX, by rw [hq]; exact hV'.symm, hvl', Nat.zero_le _, hbc, by simp, by decide, hp, by rw [hq]; rfl, by rw [hf', ht']; exact hapP, ?_⟩, w2, ?_⟩
  · rw [w2]
    have c1 : ((P.length * pat.length : Nat) : Int) = (P.length : Int) * (pat.length : Int) := Int.natCast_mul _ _
    simp only [List.length_cons, List.length_nil, Nat.zero_add] at n1 ⊢
    rw [Int.mul_sub]
    generalize P.length * pat.length = u at *
    omega
  · rw [hf', ht']
    have e5 : (U.drop 0).take (U.length - 0) = U := by simp
    have e6 : ∀ x : List UInt8, U.take 0 ++ x ++ U.drop U.length = x := by simp
    rw [e5, e6]
    show putsL U 0 1 pat _ = S
    rw [w1, hflat]
end Go.Proofs.YtgmeamefbfgbgaaDoor

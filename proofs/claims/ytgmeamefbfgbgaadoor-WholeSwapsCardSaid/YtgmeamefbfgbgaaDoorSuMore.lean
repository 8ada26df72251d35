/-
  What a text has behind a substitution, as plain facts: layer 15.
-/
import Derived.Test.YtgmeamefbfgbgaaDoorSuSub
import Derived.Test.YtgmeamefbfgbgaaDoorM04s
namespace Go.Proofs.YtgmeamefbfgbgaaDoor
open Go.RowKit

section
variable {α : Type}
theorem putsL_count [BEq α] [LawfulBEq α] {m : Nat} (r : List α) (b : α) : ∀ (P : List Nat) (x : List α) (off : Nat), Apart m off (off + x.length) P → (∀ p ∈ P, ((x.drop (p - off)).take m).count b = 0) → (putsL x off m r P).count b = x.count b + P.length * r.count b := by
  intro P
  induction P with
  | nil => intro x off _ _; simp [putsL_nil]
  | cons p P ih =>
    intro x off h hp
    have hl := h.2.le
    have h1 := h.1
    have h2 := ih (x.drop (p + m - off)) (p + m) (by rw [List.length_drop, show p + m + (x.length - (p + m - off)) = off + x.length by omega]; exact h.2) (fun q hq => by
      have h3 := h.2.mem q hq
      have := hp q (List.mem_cons_of_mem _ hq)
      rw [List.drop_drop, show p + m - off + (q - (p + m)) = q - off by omega]
      exact this)
    have h4 := hp p List.mem_cons_self
    have e : x.count b = (x.take (p - off)).count b + (((x.drop (p - off)).take m).count b + (x.drop (p + m - off)).count b) := by
      have e1 := List.take_append_drop (p - off) x
      have e2 := List.take_append_drop m (x.drop (p - off))
      rw [List.drop_drop, show p - off + m = p + m - off by omega] at e2
      rw [← List.count_append, e2, ← List.count_append, e1]
    rw [putsL_first r h, List.count_append, List.count_append, h2, e, h4, List.length_cons, Nat.succ_mul]
    omega
end

theorem subB_self (y : Nat) : subB y y = true := by unfold subB; rw [Nat.and_self]; simp
theorem viewTo_own (r : List UInt8) (y : Nat) : viewTo r (List.replicate r.length y) y = r := by
  induction r with
  | nil => rfl
  | cons b r ih =>
    unfold viewTo at ih ⊢
    rw [List.length_cons, List.replicate_succ, List.zip_cons_cons, List.map_cons, ih]
    simp [subB_self]
/-- the view of what came is what came into the view -/
theorem viewTo_puts {y m : Nat} (r : List UInt8) : ∀ (P : List Nat) (x : List UInt8) (lx : List Nat) (off : Nat), lx.length = x.length → Apart m off (off + x.length) P →
    viewTo (putsL x off m r P) (putsL lx off m (List.replicate r.length y) P) y = putsL (viewTo x lx y) off m r P := by
  intro P
  induction P with
  | nil => intro x lx off _ _; rfl
  | cons p P ih =>
    intro x lx off hl h
    have hle := h.2.le
    have h1 := h.1
    have hd : (lx.drop (p + m - off)).length = (x.drop (p + m - off)).length := by rw [List.length_drop, List.length_drop, hl]
    have h2 := ih (x.drop (p + m - off)) (lx.drop (p + m - off)) (p + m) hd (by rw [List.length_drop, show p + m + (x.length - (p + m - off)) = off + x.length by omega]; exact h.2)
    rw [putsL_first r h, putsL_first (List.replicate r.length y) (by rw [hl]; exact h), putsL_first r (by rw [viewTo_len hl]; exact h)]
    rw [viewTo_append (by rw [List.length_append, List.length_append, List.length_take, List.length_take, hl, List.length_replicate]), viewTo_append (by rw [List.length_take, List.length_take, hl]), viewTo_own, viewTo_take, h2, viewTo_drop]

/-- the first place of a line, by what lies ahead -/
theorem end_at {S : List UInt8} {n x : Nat} (h : S[x]? = some 10) (hn : (S.take x).count 10 = n) : endL S n = x := by
  have hx : x < S.length := by
    rcases Nat.lt_or_ge x S.length with h2 | h2
    · exact h2
    · rw [List.getElem?_eq_none h2] at h; cases h
  have hh := endsTo_has hx h
  rw [endsTo_count, hn] at hh
  unfold endL endsL
  have hlt : n < (endsTo S S.length).length := by
    rcases Nat.lt_or_ge n (endsTo S S.length).length with h2 | h2
    · exact h2
    · rw [List.getElem?_eq_none h2] at hh; cases hh
  rw [List.getD, List.getElem?_append_left hlt, hh]
  rfl
section
variable {V V' : List UInt8} {A B f t t' : Nat}
/-- lines ahead of what was changed -/
theorem beg_same (hA : A < countL V) (hf : V'.take (begL V A) = V.take (begL V A)) (hle : begL V A ≤ V'.length) : begL V' A = begL V A := by
  cases A with
  | zero => rw [beg_zero, beg_zero]
  | succ n =>
    rw [beg_succ, beg_succ]
    rw [beg_succ] at hf hle
    obtain ⟨h1, h2, h3⟩ := ends_inner hA
    have e1 : V'[endL V n]? = V[endL V n]? := by
      have := congrArg (fun l => l[endL V n]?) hf
      simpa [List.getElem?_take_of_lt] using this
    have e2 : V'.take (endL V n) = V.take (endL V n) := by
      have := congrArg (List.take (endL V n)) hf
      rw [List.take_take, List.take_take] at this
      rwa [show min (endL V n) (endL V n + 1) = endL V n by omega] at this
    rw [end_at (by rw [e1]; exact h1) (by rw [e2, ← endsTo_count]; exact h3)]
/-- the last of the lines -/
theorem end_same (hB : B < countL V) (hc : countL V' = countL V) (hd : V'.drop t' = V.drop (endL V B)) (hn : (V'.take t').count 10 = (V.take (endL V B)).count 10) (ht : t' ≤ V'.length) : endL V' B = t' := by
  by_cases hl : B + 1 = countL V
  · have h1 := ends_last hl
    rw [ends_last (by rw [hc]; exact hl)]
    rw [h1, List.drop_length] at hd
    have := congrArg List.length hd
    rw [List.length_drop, List.length_nil] at this
    omega
  · obtain ⟨h1, h2, h3⟩ := ends_inner (S := V) (n := B) (by omega)
    refine end_at ?_ (by rw [hn, ← endsTo_count]; exact h3)
    have := congrArg (fun l => l[0]?) hd
    simp only [List.getElem?_drop, Nat.add_zero] at this
    rw [this, h1]
end
section
variable {S : List UInt8} {l : List RunP} {y A B : Nat} {pat rep : List UInt8} {every : Bool} {V : List UInt8} {P : List Nat}
theorem SubP.stand (h : SubP S l y A B pat rep every V P) : ∀ p ∈ P, ∃ n, A ≤ n ∧ n ≤ B ∧ standsS S (bytesOf l) y pat p (endL V n) = true := by
  intro p hp
  rw [h.p] at hp
  obtain ⟨n, h1, h2, h3⟩ := placesL_stand _ p hp
  have := h.ab
  exact ⟨n, h1, by omega, h3⟩
theorem SubP.mem (h : SubP S l y A B pat rep every V P) : ∀ p ∈ P, begL V A ≤ p ∧ p + pat.length ≤ endL V B := h.apart.mem
theorem nl_count {pat : List UInt8} (h : countL pat = 1) : pat.count 10 = 0 := by rw [countL_count] at h; omega
/-- a piece of a piece -/
theorem mid_take {α : Type} (x : List α) {f t p m : Nat} (h1 : f ≤ p) (h2 : p + m ≤ t) : (((x.drop f).take (t - f)).drop (p - f)).take m = (x.drop p).take m := by
  rw [List.drop_take, List.drop_drop, List.take_take, show f + (p - f) = p by omega, show min m (t - f - (p - f)) = m by omega]
theorem SubP.mid (h : SubP S l y A B pat rep every V P) : ∀ p ∈ P, (((S.drop (begL V A)).take (endL V B - begL V A)).drop (p - begL V A)).take pat.length = pat := by
  intro p hp
  have hm := h.mem p hp
  obtain ⟨n, _, _, hs⟩ := h.stand p hp
  rw [mid_take S hm.1 hm.2, stand_take hs]
theorem SubP.midV (h : SubP S l y A B pat rep every V P) : ∀ p ∈ P, (((V.drop (begL V A)).take (endL V B - begL V A)).drop (p - begL V A)).take pat.length = pat := by
  intro p hp
  have hm := h.mem p hp
  obtain ⟨n, _, _, hs⟩ := h.stand p hp
  rw [mid_take V hm.1 hm.2, h.v, stand_view h.lab hs]
theorem SubP.cutLen {α : Type} (h : SubP S l y A B pat rep every V P) (x : List α) (hx : x.length = S.length) : ((x.drop (begL V A)).take (endL V B - begL V A)).length = endL V B - begL V A := by
  have hle := h.le
  rw [List.length_take, List.length_drop]; omega
theorem SubP.apartX {α : Type} (h : SubP S l y A B pat rep every V P) (x : List α) (hx : x.length = S.length) : Apart pat.length (begL V A) (begL V A + ((x.drop (begL V A)).take (endL V B - begL V A)).length) P := by
  have hle := h.le
  rw [h.cutLen x hx, show begL V A + (endL V B - begL V A) = endL V B by omega]
  exact h.apart

/-- the view behind -/
theorem SubP.viewB (h : SubP S l y A B pat rep every V P) :
    viewTo (S.take (begL V A) ++ putsL ((S.drop (begL V A)).take (endL V B - begL V A)) (begL V A) pat.length rep P ++ S.drop (endL V B)) ((bytesOf l).take (begL V A) ++ putsL (((bytesOf l).drop (begL V A)).take (endL V B - begL V A)) (begL V A) pat.length (List.replicate rep.length y) P ++ (bytesOf l).drop (endL V B)) y =
      V.take (begL V A) ++ putsL ((V.drop (begL V A)).take (endL V B - begL V A)) (begL V A) pat.length rep P ++ V.drop (endL V B) := by
  have hl := h.lab
  have n1 := h.len S rep rfl rfl
  have n2 := h.len (bytesOf l) (List.replicate rep.length y) hl List.length_replicate
  have e0 : ((bytesOf l).take (begL V A)).length = (S.take (begL V A)).length := by rw [List.length_take, List.length_take, hl]
  rw [viewTo_append (by rw [List.length_append, List.length_append, e0]; omega), viewTo_append e0, viewTo_take, viewTo_drop,
    viewTo_puts rep P _ _ _ (by rw [h.cutLen S rfl, h.cutLen _ hl]) (h.apartX S rfl), viewTo_take, viewTo_drop, ← h.v]
/-- the lines behind -/
theorem SubP.lines (h : SubP S l y A B pat rep every V P) (hr : rep.count 10 = 0) {V' : List UInt8} {xs : List UInt8} (hx : putsL ((V.drop (begL V A)).take (endL V B - begL V A)) (begL V A) pat.length rep P = xs) (hV : V.take (begL V A) ++ xs ++ V.drop (endL V B) = V') :
    countL V' = countL V ∧ begL V' A = begL V A ∧ endL V' B = begL V A + xs.length := by
  have hle := h.le
  have hvl := h.vl
  have hc := putsL_count rep (10 : UInt8) P _ _ (h.apartX V hvl) (fun p hp => by rw [h.midV p hp]; exact nl_count h.nl)
  rw [hx, hr, Nat.mul_zero, Nat.add_zero] at hc
  have e1 : (V.take (begL V A)).length = begL V A := by rw [List.length_take]; omega
  have hall : V'.count 10 = V.count 10 := by
    have := parts3 V (begL V A) (endL V B - begL V A) (by omega)
    rw [show begL V A + (endL V B - begL V A) = endL V B by omega] at this
    rw [← hV, this, List.count_append, List.count_append, List.count_append, List.count_append, ← this, hc]
  have hC : countL V' = countL V := by rw [countL_count, countL_count, hall]
  have hA : A < countL V := by have := h.ab; have := h.bc; omega
  refine ⟨hC, beg_same hA (by rw [← hV]; exact take_three _ _ _ e1.symm) (by rw [← hV, List.length_append, List.length_append, e1]; omega), ?_⟩
  refine end_same h.bc hC (by rw [← hV]; exact drop_three _ _ _ (by rw [e1])) ?_ (by rw [← hV, List.length_append, List.length_append, e1]; omega)
  have e2 : V'.take (begL V A + xs.length) = V.take (begL V A) ++ xs := by rw [← hV, List.take_left' (by rw [List.length_append, e1])]
  have e3 : V.take (endL V B) = V.take (begL V A) ++ (V.drop (begL V A)).take (endL V B - begL V A) := by
    have := List.take_add (l := V) (i := begL V A) (j := endL V B - begL V A)
    rwa [show begL V A + (endL V B - begL V A) = endL V B by omega] at this
  rw [e2, e3, List.count_append, List.count_append, hc]
end
end Go.Proofs.YtgmeamefbfgbgaaDoor

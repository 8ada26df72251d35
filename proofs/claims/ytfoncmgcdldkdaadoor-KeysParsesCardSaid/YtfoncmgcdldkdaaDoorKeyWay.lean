/-
  The way from sign to sign through bytes that tell keys; what the landed Parse decides at each key.
-/
import Derived.Test.YtfoncmgcdldkdaaDoorKeyWrt
namespace Go.Proofs.YtfoncmgcdldkdaaDoor
open Go.RowKit

/-- from a one comes to p, sign by sign -/
inductive Reach (S : List UInt8) : Nat → Nat → Prop
  | here (p : Nat) : Reach S p p
  | step {a p : Nat} (h : a < S.length) (k : Reach S (a + (dec (S.drop a)).2) p) : Reach S a p
theorem Reach.le {S : List UInt8} {a p : Nat} (h : Reach S a p) : a ≤ p := by
  induction h with
  | here => exact Nat.le_refl _
  | step h k ih => omega
theorem Reach.last {S : List UInt8} {a p : Nat} (h : Reach S a p) (ha : ¬ a < S.length) : a = p := by
  cases h with
  | here => rfl
  | step h k => exact absurd h ha
theorem Reach.next {S : List UInt8} {a p : Nat} (h : Reach S a p) (ha : a ≠ p) : Reach S (a + (dec (S.drop a)).2) p := by
  cases h with
  | here => exact absurd rfl ha
  | step h k => exact k
theorem dec_low {b : UInt8} {t : List UInt8} (h : b.toNat < 128) : dec (b :: t) = (b.toNat, 1) := by
  unfold dec
  simp only [List.getD_cons_zero]
  rw [if_pos (by omega)]
theorem reach_low {S : List UInt8} : ∀ (l t : List UInt8) (a : Nat), S.drop a = l ++ t → (∀ b ∈ l, b.toNat < 128) → Reach S a (a + l.length) := by
  intro l
  induction l with
  | nil => intro t a _ _; exact .here _
  | cons b l ih =>
    intro t a h hl
    have ha : a < S.length := by
      have := congrArg List.length h
      rw [List.length_drop, List.length_append, List.length_cons] at this
      omega
    refine .step ha ?_
    have hd : dec (S.drop a) = (b.toNat, 1) := by rw [h]; exact dec_low (hl b (List.mem_cons_self ..))
    rw [hd]
    have h2 : S.drop (a + 1) = l ++ t := by rw [← List.drop_drop, h]; rfl
    have := ih t (a + 1) h2 (fun x hx => hl x (List.mem_cons_of_mem _ hx))
    rw [List.length_cons]
    rwa [show a + 1 + l.length = a + (l.length + 1) by omega] at this
theorem ang_low : ∀ r : Fin 61, angK r.1 = true → ∀ b ∈ writK r.1, b.toNat < 128 := by decide +kernel
theorem reach_key {S : List UInt8} {p r : Nat} (hr : keyK r) {t : List UInt8} (h : S.drop p = writK r ++ t) : Reach S p (p + (writK r).length) := by
  rcases key_kinds hr with ha | ⟨_, _, _, hm, hw⟩
  · exact reach_low _ _ _ h (ang_low ⟨r, ang_lt ha⟩ ha)
  · have hp : p < S.length := by
      have := congrArg List.length h
      have hl := writK_len r
      rw [List.length_drop, List.length_append] at this
      omega
    refine .step hp ?_
    have hd : dec (S.drop p) = (r, (enc r).length) := by rw [h, hw]; exact dec_enc r hm t
    rw [hd, hw]
    exact .here _
/-- the key that was meant is the one with which the bytes begin, or none is -/
theorem meant_one {T : List UInt8} {m : Int} (hm : Meant T ((dec T).1 : Nat) m) {x : Nat} (h : oneK T = some x) : m = x := by
  obtain ⟨k1, k2⟩ := oneK_some h
  have hp : writK x <+: T := ⟨_, k2.symm⟩
  rcases key_kinds k1 with ha | ⟨_, _, h60, hmay, hw⟩
  · have hh := ang_head ⟨x, ang_lt ha⟩ ha
    have hd : (dec T).1 = 60 := by
      rcases hx : writK x with _ | ⟨b, u⟩
      · rw [show writK (⟨x, ang_lt ha⟩ : Fin 61).1 = writK x from rfl, hx] at hh; cases hh
      · rw [show writK (⟨x, ang_lt ha⟩ : Fin 61).1 = writK x from rfl, hx] at hh
        injection hh with hh
        subst hh
        rw [k2, hx]
        exact congrArg Prod.fst (dec_low (b := 60) (by decide))
    exact hm.angle (by rw [hd]; rfl) x ha hp
  · have hd : (dec T).1 = x := by
      rw [k2, hw]
      exact congrArg Prod.fst (dec_enc x hmay _)
    rw [hm.other (by rw [hd]; omega), hd]
theorem meant_yes {T F : List UInt8} {m : Int} (hk : keyK m) (hF : keyK m → F = writK m.toNat) (hp : F.isPrefixOf T = true) : ∃ x : Nat, m = x ∧ F = writK x ∧ oneK T = some x := by
  have h0 : ((m.toNat : Nat) : Int) = m := by unfold keyK at hk; omega
  refine ⟨m.toNat, h0.symm, hF hk, ?_⟩
  rw [hF hk] at hp
  obtain ⟨t, ht⟩ := List.isPrefixOf_iff_prefix.1 hp
  rw [← ht]
  exact oneK_writ (by rw [h0]; exact hk) t
theorem meant_no {T F : List UInt8} {m : Int} (hm : Meant T ((dec T).1 : Nat) m) (hF : keyK m → F = writK m.toNat) (hp : keyK m → F.isPrefixOf T = false) : oneK T = none := by
  rcases h : oneK T with _ | x
  · rfl
  · exfalso
    obtain rfl := meant_one hm h
    obtain ⟨k1, k2⟩ := oneK_some h
    have h1 := hp k1
    rw [hF k1] at h1
    have : writK x <+: T := ⟨_, k2.symm⟩
    rw [show ((x : Int)).toNat = x from Int.toNat_natCast x, List.isPrefixOf_iff_prefix.2 this] at h1
    cases h1
theorem ReadK.way {S : List UInt8} {L : List Nat} {p r : Nat} (_h : ReadK S L p) (ho : oneK (S.drop p) = some r) (_hlt : p < S.length) : Reach S (p + (dec (S.drop p)).2) (p + (writK r).length) := by
  obtain ⟨k1, k2⟩ := oneK_some ho
  refine (reach_key k1 k2).next ?_
  have := writK_len r
  omega
theorem take_more {α : Type} (L : List α) (r : α) (h : L.length ≤ 256) : (L ++ [r]).take 257 = L.take 257 ++ [r] := by
  rw [List.take_of_length_le (by simp; omega), List.take_of_length_le (by omega)]
theorem take_full {α : Type} (L : List α) (r : α) (h : ¬ L.length ≤ 256) : (L ++ [r]).take 257 = L.take 257 := by
  rw [List.take_append_of_le_length (by omega)]
end Go.Proofs.YtfoncmgcdldkdaaDoor

/-
  Contracts of the document's own answers, layer 6: Col.
-/
import Derived.Test.YtckikigjleckeaaLinStarts
namespace Go.Proofs.Ytckikigjleckeaa
open Go.RowKit

/-- the column of a place at which a sign begins -/
def colAt (S : List UInt8) (a : Nat) : Nat := ((startsL S (ofL S a)).filter (fun x => decide (x < a))).length

set_option maxHeartbeats 1000000 in
theorem refCol_any (S : List UInt8) (hs : S.length ≤ 1000000) (p : Int) (w : World) :
    Calls Try.prog 55 #[.string ⟨S.toArray⟩, .int .i64 p] w fun e w' => ∃ i : Nat, e = .returned (.int .i64 (colAt S (width ((chars S).take i)) : Nat)) ∧ Which (chars S) p i ∧ Below w.heap.size w w' := by
  go_enter Try.func55, Try.ntmps55
  go_upto_region 2 with (go_at_call 12; refine (refAlign_any S hs p _).mono ?_; rintro e w1 ⟨i, rfl, hwh, b1⟩)
  have HCA : Hid (colAt S (width ((chars S).take i)) = ((startsL S (ofL S ((width ((chars S).take i) : Nat) : Int))).filter (fun x => decide (x < width ((chars S).take i)))).length) := rfl
  have HW := Lib.hid hwh
  have hsl := startsL_len S (ofL S ((width ((chars S).take i) : Nat) : Int))
  have z1 := b1.size
  clear hwh
  go_upto_region 3 with (first
    | (go_at_call 14; refine (refOf_any S hs ((width ((chars S).take i) : Nat) : Int) _).mono ?_; rintro e w2 ⟨rfl, b2⟩; have z2 := b2.size)
    | (go_at_call 74; refine (refLStarts_any S hs (ofL S ((width ((chars S).take i) : Nat) : Int)) _).mono ?_; rintro e w3 ⟨A, c, rfl, hown, b3⟩))
  have z3 := b3.size
  have HR := Lib.hid (Row.of_own hown)
  generalize startsL S (ofL S ((width ((chars S).take i) : Nat) : Int)) = l at *
  generalize hA : width ((chars S).take i) = a at *
  have HA := Lib.hid hA
  clear hA
  have B3 := Lib.hid (b1.trans ((b2.mono z1).trans (b3.mono (by omega))))
  clear hown b1 b2 b3
  go_wp2_with fail
  go_loopw [7, 8] (fun n j wr => ∃ k : Nat, k ≤ l.length ∧ j = .int .i64 k ∧ n = .int .i64 (((l.take k).filter (fun x => decide (x < a))).length : Nat) ∧ Below w3.heap.size w3 wr) (fun _ j _ => l.length - (intOf j).toNat)
  case atStart => exact ⟨0, Nat.zero_le _, rfl, rfl, Below.refl _ _⟩
  case round =>
    obtain ⟨k, hk, rfl, rfl, hb⟩ := hrel
    have hfl : ((l.take k).filter (fun x => decide (x < a))).length ≤ k := Nat.le_trans (List.length_filter_le _ _) (by rw [List.length_take]; omega)
    by_cases hlt : k < l.length
    · obtain ⟨ad, rfl, hbl, c0⟩ := (HR.out.below hb).map_at hlt
      have HT := Lib.hid (filter_take l (fun x => decide (x < a)) k hlt)
      unfold intn at c0
      generalize l[k] = x at *
      generalize (l.take k).filter (fun x => decide (x < a)) = E0 at *
      by_cases hp : x < a
      · rw [if_pos (by simpa using hp)] at HT
        have q2 : (x : Int) < (a : Int) := by omega
        go_wp2_with fail
        go_roundw
        case rel => exact ⟨k + 1, by omega, by go_num, by rw [HT.out, List.length_append]; go_num, hb⟩
        case measure => simp [intOf]; omega
      · rw [if_neg (by simpa using hp), List.append_nil] at HT
        have q2 : ¬ (x : Int) < (a : Int) := by omega
        go_wp2_with fail
        go_roundw
        case rel => exact ⟨k + 1, by omega, by go_num, by rw [HT.out], hb⟩
        case measure => simp [intOf]; omega
    · obtain rfl : k = l.length := by omega
      go_wp2_with fail
      go_ret
      exact ⟨i, by rw [HA.out, HCA.out, List.take_length]; rfl, HW.out, B3.out.trans (hb.mono (by have := B3.out.size; omega))⟩

/-- the bytes that go with whole lines -/
def wholeL (S : List UInt8) (a b : Int) : (Nat × Nat) × Nat :=
  if 0 ≤ a ∧ a ≤ b ∧ b < (countL S : Int) then
    (if b + 1 < (countL S : Int) then (((boundsL S a).1.1, (boundsL S (b + 1)).1.1), 0) else if 0 < a then (((boundsL S a).1.1 - 1, S.length), 0) else ((0, S.length), 0))
  else ((0, 0), 2)
theorem wholeL_bad {S : List UInt8} {a b : Int} (h : ¬ (0 ≤ a ∧ a ≤ b ∧ b < (countL S : Int))) : wholeL S a b = ((0, 0), 2) := if_neg h
theorem wholeL_good {S : List UInt8} {a b : Int} (h : 0 ≤ a ∧ a ≤ b ∧ b < (countL S : Int)) : wholeL S a b = (if b + 1 < (countL S : Int) then (((boundsL S a).1.1, (boundsL S (b + 1)).1.1), 0) else if 0 < a then (((boundsL S a).1.1 - 1, S.length), 0) else ((0, S.length), 0)) := if_pos h
theorem boundsL_pos {S : List UInt8} {a : Int} (h : 0 < a) (h2 : a < (countL S : Int)) : 0 < (boundsL S a).1.1 ∧ (boundsL S a).1.1 ≤ S.length + 1 := by
  obtain ⟨m, rfl⟩ : ∃ m : Nat, a = ((m + 1 : Nat) : Int) := ⟨a.toNat - 1, by omega⟩
  have hm : m + 1 < countL S := by omega
  rw [boundsL_succ hm]
  have hl := endsL_len S
  refine ⟨by show 0 < _ + 1; omega, ?_⟩
  have hx := endsL_le S _ (List.getElem_mem (show m < (endsL S).length by omega))
  show List.getD _ _ _ + 1 ≤ _
  rw [List.getD_eq_getElem?_getD, List.getElem?_eq_getElem (by omega)]
  show (endsL S)[m] + 1 ≤ _
  omega

attribute [local irreducible] boundsL countL wholeL
end Go.Proofs.Ytckikigjleckeaa

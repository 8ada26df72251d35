/-
  Contracts of the document's own answers, layer 6: starts, brought, last, Place.
-/
import Derived.Test.YtckikigjleckeaaLinBounds
import Derived.Test.YtckikigjleckeaaGlyMath
import Derived.Test.YtckikigjleckeaaGlyWhich
namespace Go.Proofs.Ytckikigjleckeaa
open Go.RowKit

def inLine (S : List UInt8) (n : Int) (x : Nat) : Bool := decide ((boundsL S n).1.1 ≤ x) && decide (x < (boundsL S n).1.2)
/-- where the signs of a line begin -/
def startsL (S : List UInt8) (n : Int) : List Nat := (startsAt 0 (chars S)).filter (inLine S n)
theorem filter_take {α : Type} (l : List α) (p : α → Bool) (k : Nat) (h : k < l.length) : (l.take (k + 1)).filter p = (l.take k).filter p ++ (if p l[k] = true then [l[k]] else []) := by
  rw [List.take_succ_eq_append_getElem h, List.filter_append]
  congr 1
  by_cases hp : p l[k] = true
  · rw [if_pos hp]; simp [hp]
  · rw [if_neg hp]; simp [hp]
theorem starts_le (S : List UInt8) : ∀ x ∈ startsAt 0 (chars S), x ≤ S.length := by
  intro x hx
  obtain ⟨k, hk, rfl⟩ := List.getElem_of_mem hx
  have hk' : k < (chars S).length := by rw [startsAt_len] at hk; exact hk
  rw [startsAt_get (chars S) k hk']
  have := width_le_take (chars S) k
  rw [width_chars] at this
  exact this

set_option maxHeartbeats 2000000 in
theorem refLStarts_any (S : List UInt8) (hs : S.length ≤ 1000000) (n : Int) (w : World) :
    Calls Try.prog 74 #[.string ⟨S.toArray⟩, .int .i64 n] w fun e w' => ∃ A c, e = .returned (.slice A (startsL S n).length c) ∧ w'.ownsRow w.heap.size 3 1 (.slice A (startsL S n).length c) (startsL S n).length ((startsL S n).map intn) ∧ Below w.heap.size w w' := by
  have hsl : (startsAt 0 (chars S)).length = (chars S).length := startsAt_len _ _
  have hcl := chars_len S
  have HSL : Hid (startsL S n = (startsAt 0 (chars S)).filter (inLine S n)) := rfl
  have HIN : Hid (∀ x, inLine S n x = (decide ((boundsL S n).1.1 ≤ x) && decide (x < (boundsL S n).1.2))) := fun _ => rfl
  go_enter Try.func74, Try.ntmps74
  go_upto_region 2 with (go_at_call 46; refine (refBounds_any S hs n _).mono ?_; rintro e w1 ⟨rfl, b1⟩)
  generalize boundsL S n = r at *
  obtain ⟨⟨F, T⟩, E⟩ := r
  dsimp only at HIN
  have z1 := b1.size
  go_upto_region 3 with (go_at_call 86; refine (refStarts_any S hs _).mono ?_; rintro e w2 ⟨A2, c2, rfl, hown2, b2⟩)
  generalize startsAt 0 (chars S) = l at *
  generalize inLine S n = p at *
  have z2 := b2.size
  have HR := Lib.hid (Row.of_own hown2)
  have hll : l.length ≤ S.length := by omega
  clear hown2
  go_wp2_with fail
  go_loopw [9, 10] (fun v i wr => ∃ k : Nat, k ≤ l.length ∧ i = .int .i64 k ∧ wr.ownsRow w2.heap.size 3 1 v ((l.take k).filter p).length (((l.take k).filter p).map intn) ∧ Below w2.heap.size w2 wr) (fun _ i _ => l.length - (intOf i).toNat)
  case atStart => exact ⟨0, Nat.zero_le _, rfl, World.ownsRow_nil _ _ _ _, Below.refl _ _⟩
  case round =>
    obtain ⟨k, hk, rfl, hown, hb⟩ := hrel
    have z := hb.size
    obtain ⟨A1, c1, rfl⟩ := own_form hown
    have hfl : ((l.take k).filter p).length ≤ k := Nat.le_trans (List.length_filter_le _ _) (by rw [List.length_take]; omega)
    by_cases hlt : k < l.length
    · obtain ⟨ad, rfl, hbl, c0⟩ := (HR.out.below hb).map_at hlt
      have HT := Lib.hid (filter_take l p k hlt)
      have HP := Lib.hid (HIN.out l[k])
      unfold intn at c0
      generalize l[k] = x at *
      generalize hE : (l.take k).filter p = E0 at *
      have HEE := Lib.hid hE
      clear hE
      by_cases hp1 : F ≤ x
      · by_cases hp2 : x < T
        · have hpx : p x = true := by rw [HP.out]; simp [hp1, hp2]
          rw [if_pos hpx] at HT
          have q1 : (F : Int) ≤ (x : Int) := by omega
          have q2 : (x : Int) < (T : Int) := by omega
          go_wp2_with (at_builtin; refine wpList_push rfl _ _ _ rfl w2.heap.size 3 _ 8 elt_int _ _ _ _ rfl hown (.int .i64 (x : Nat)) rfl rfl (by unfold maxLen; omega) (by omega) z ?_; intro v5 w5 hown5 hb5)
          go_roundw
          case rel => exact ⟨k + 1, by omega, by go_num, by rw [HT.out, List.length_append, List.map_append]; exact hown5, hb.trans hb5⟩
          case measure => simp [intOf]; omega
        · have hpx : ¬ p x = true := by rw [HP.out]; simp; omega
          rw [if_neg hpx, List.append_nil] at HT
          have q1 : (F : Int) ≤ (x : Int) := by omega
          have q2 : ¬ (x : Int) < (T : Int) := by omega
          go_wp2_with fail
          go_roundw
          case rel => exact ⟨k + 1, by omega, by go_num, by rw [HT.out]; exact hown, hb⟩
          case measure => simp [intOf]; omega
      · have hpx : ¬ p x = true := by rw [HP.out]; simp; omega
        rw [if_neg hpx, List.append_nil] at HT
        have q1 : ¬ (F : Int) ≤ (x : Int) := by omega
        go_wp2_with fail
        go_roundw
        case rel => exact ⟨k + 1, by omega, by go_num, by rw [HT.out]; exact hown, hb⟩
        case measure => simp [intOf]; omega
    · obtain rfl : k = l.length := by omega
      rw [List.take_length] at hown hfl
      go_wp2_with fail
      go_ret
      refine ⟨A1, c1, ?_, ?_, b1.trans ((b2.mono z1).trans (hb.mono (by omega)))⟩
      · rw [HSL.out, List.take_length]; rfl
      · rw [HSL.out]; exact own_base hown (by omega)

/-- a line's number, clamped -/
def broughtL (S : List UInt8) (n : Int) : Nat := min n.toNat (countL S - 1)
theorem countL_pos (S : List UInt8) : 0 < countL S := by unfold countL; omega
theorem refBrought_any (S : List UInt8) (hs : S.length ≤ 1000000) (n : Int) (w : World) :
    Calls Try.prog 73 #[.string ⟨S.toArray⟩, .int .i64 n] w fun e w' => e = .returned (.int .i64 (broughtL S n : Nat)) ∧ Below w.heap.size w w' := by
  have hcl := countL_le S
  have hcp := countL_pos S
  have hw := wrap_small ((countL S : Int) - 1) (by omega) (by omega)
  by_cases h0 : n < 0
  · have HB : Hid (broughtL S n = 0) := by show _ = _; unfold broughtL; omega
    go_enter Try.func73, Try.ntmps73
    go_wp2_with (go_at_call 16; refine (refCount_any S hs _).mono ?_; rintro e w1 ⟨rfl, b1⟩)
    go_ret
    exact ⟨by rw [HB.out]; rfl, b1⟩
  · by_cases h1 : n ≤ (countL S : Int) - 1
    · have HB : Hid (((broughtL S n : Nat) : Int) = n) := by show _ = _; unfold broughtL; omega
      go_enter Try.func73, Try.ntmps73
      go_wp2_with (go_at_call 16; refine (refCount_any S hs _).mono ?_; rintro e w1 ⟨rfl, b1⟩)
      go_ret
      exact ⟨by rw [HB.out]; rfl, b1⟩
    · have HB : Hid (((broughtL S n : Nat) : Int) = (countL S : Int) - 1) := by show _ = _; unfold broughtL; omega
      go_enter Try.func73, Try.ntmps73
      go_wp2_with (go_at_call 16; refine (refCount_any S hs _).mono ?_; rintro e w1 ⟨rfl, b1⟩)
      go_ret
      exact ⟨by rw [HB.out]; rfl, b1⟩

/-- a line's last sign -/
def lastL (S : List UInt8) (n : Int) : Nat := if startsL S n = [] then (boundsL S n).1.1 else (startsL S n).getD ((startsL S n).length - 1) 0
theorem startsL_len (S : List UInt8) (n : Int) : (startsL S n).length ≤ S.length := by
  have h := List.length_filter_le (inLine S n) (startsAt 0 (chars S))
  have h2 : (startsAt 0 (chars S)).length = (chars S).length := startsAt_len _ _
  have h3 := chars_len S
  unfold startsL
  omega
set_option maxHeartbeats 1000000 in
theorem refLast_any (S : List UInt8) (hs : S.length ≤ 1000000) (n : Int) (w : World) :
    Calls Try.prog 76 #[.string ⟨S.toArray⟩, .int .i64 n] w fun e w' => e = .returned (.int .i64 (lastL S n : Nat)) ∧ Below w.heap.size w w' := by
  have hsl := startsL_len S n
  by_cases hn : startsL S n = []
  · have HL : Hid (lastL S n = (boundsL S n).1.1) := if_pos hn
    have hl0 : (startsL S n).length = 0 := by rw [hn]; rfl
    clear hn
    go_enter Try.func76, Try.ntmps76
    go_wp2_with (first
      | (go_at_call 74; refine (refLStarts_any S hs n _).mono ?_; rintro e w1 ⟨A, c, rfl, hown, b1⟩)
      | (go_at_call 46; refine (refBounds_any S hs n _).mono ?_; rintro e w2 ⟨rfl, b2⟩))
    go_ret
    exact ⟨by rw [HL.out]; rfl, b1.trans (b2.mono b1.size)⟩
  · have HL : Hid (lastL S n = (startsL S n).getD ((startsL S n).length - 1) 0) := if_neg hn
    have hl0 : 0 < (startsL S n).length := List.length_pos_iff.2 hn
    obtain ⟨q, hq⟩ : ∃ q, (startsL S n).length = q + 1 := ⟨(startsL S n).length - 1, by omega⟩
    clear hn
    go_enter Try.func76, Try.ntmps76
    go_upto_region 2 with (go_at_call 74; refine (refLStarts_any S hs n _).mono ?_; rintro e w1 ⟨A, c, rfl, hown, b1⟩)
    obtain ⟨g, rfl, hc⟩ := own_atL hown hl0
    have c0 := hc q (by omega)
    have HG : Hid ((startsL S n).getD ((startsL S n).length - 1) 0 = (startsL S n)[q]'(by omega)) := by
      show List.getD _ _ _ = _
      have e : (startsL S n).length - 1 = q := by omega
      rw [e, List.getD_eq_getElem?_getD, List.getElem?_eq_getElem (by omega)]; rfl
    generalize (startsL S n)[q]'(by omega) = x at *
    clear hc hown
    have HQ := Lib.hid hq
    have hww := wrap_small (q : Int) (by omega) (by omega)
    have hq0 : (0 : Int) ≤ (q : Int) := by omega
    have hq1 : (q : Int) < (q : Int) + 1 := by omega
    have hq2 : ¬ (q : Int) + 1 = 0 := by omega
    go_wp2_with fail
    go_ret
    exact ⟨by rw [HL.out, HG.out]; rfl, b1⟩

/-- the place of a column -/
def placeL (S : List UInt8) (n col : Int) : Nat := if col.toNat < (startsL S (broughtL S n)).length then (startsL S (broughtL S n)).getD col.toNat 0 else lastL S (broughtL S n)
set_option maxHeartbeats 1000000 in
theorem refPlace_any (S : List UInt8) (hs : S.length ≤ 1000000) (n col : Int) (w : World) :
    Calls Try.prog 54 #[.string ⟨S.toArray⟩, .int .i64 n, .int .i64 col] w fun e w' => e = .returned (.int .i64 (placeL S n col : Nat)) ∧ Below w.heap.size w w' := by
  go_enter Try.func54, Try.ntmps54
  go_upto_region 3 with (first
    | (go_at_call 73; refine (refBrought_any S hs n _).mono ?_; rintro e w1 ⟨rfl, b1⟩)
    | (go_at_call 74; refine (refLStarts_any S hs (broughtL S n) _).mono ?_; rintro e w2 ⟨A, c, rfl, hown, b2⟩))
  have z1 := b1.size
  have hsl := startsL_len S (broughtL S n)
  have hmx : ∀ C : Nat, col.toNat = C → (C < (startsL S (broughtL S n)).length → placeL S n col = (startsL S (broughtL S n)).getD C 0) ∧ (¬ C < (startsL S (broughtL S n)).length → placeL S n col = lastL S (broughtL S n)) := fun C hC => by
    subst hC
    exact ⟨fun h => if_pos h, fun h => if_neg h⟩
  have B2 := Lib.hid (b1.trans (b2.mono z1))
  have HMX := Lib.hid hmx
  have HOW := Lib.hid hown
  clear hmx hown b1 b2
  by_cases h0 : col < 0
  · have hx := HMX.out 0 (by omega)
    have HX := Lib.hid hx
    clear hx HMX
    by_cases hl : 0 < (startsL S (broughtL S n)).length
    · obtain ⟨g, rfl, hc⟩ := own_atL HOW.out hl
      have c0 := hc 0 hl
      have HG : Hid ((startsL S (broughtL S n)).getD 0 0 = (startsL S (broughtL S n))[0]'hl) := by show List.getD _ _ _ = _; rw [List.getD_eq_getElem?_getD, List.getElem?_eq_getElem hl]; rfl
      have HP := Lib.hid (HX.out.1 hl)
      have hl' : (0 : Int) < ((startsL S (broughtL S n)).length : Int) := by omega
      have hl2 : ¬ ((startsL S (broughtL S n)).length : Int) ≤ 0 := by omega
      have hl3 : ¬ (startsL S (broughtL S n)).length = 0 := by omega
      have hl4 : ¬ startsL S (broughtL S n) = [] := fun e => hl3 (by rw [e]; rfl)
      generalize (startsL S (broughtL S n))[0]'hl = x at *
      clear hc HX
      go_wp2_with fail
      go_ret
      exact ⟨by rw [HP.out, HG.out]; rfl, B2.out⟩
    · have HP := Lib.hid (HX.out.2 hl)
      have hl' : (startsL S (broughtL S n)).length = 0 := by omega
      clear HX
      go_wp2_with (go_at_call 76; refine (refLast_any S hs (broughtL S n) _).mono ?_; rintro e w3 ⟨rfl, b3⟩)
      go_ret
      exact ⟨by rw [HP.out]; rfl, B2.out.trans (b3.mono B2.out.size)⟩
  · obtain ⟨C, rfl⟩ : ∃ C : Nat, col = (C : Int) := ⟨col.toNat, by omega⟩
    have hx := HMX.out C (by omega)
    have HX := Lib.hid hx
    clear hx HMX
    have hC0 : (0 : Int) ≤ (C : Int) := by omega
    by_cases hl : C < (startsL S (broughtL S n)).length
    · obtain ⟨g, rfl, hc⟩ := own_atL HOW.out (by omega)
      have c0 := hc C hl
      have HG : Hid ((startsL S (broughtL S n)).getD C 0 = (startsL S (broughtL S n))[C]'hl) := by show List.getD _ _ _ = _; rw [List.getD_eq_getElem?_getD, List.getElem?_eq_getElem hl]; rfl
      have HP := Lib.hid (HX.out.1 hl)
      have hl' : (C : Int) < ((startsL S (broughtL S n)).length : Int) := by omega
      generalize (startsL S (broughtL S n))[C]'hl = x at *
      clear hc HX
      go_wp2_with fail
      go_ret
      exact ⟨by rw [HP.out, HG.out]; rfl, B2.out⟩
    · have HP := Lib.hid (HX.out.2 hl)
      have hl' : ¬ (C : Int) < ((startsL S (broughtL S n)).length : Int) := by omega
      have hl2 : ((startsL S (broughtL S n)).length : Int) ≤ (C : Int) := by omega
      clear HX
      go_wp2_with (go_at_call 76; refine (refLast_any S hs (broughtL S n) _).mono ?_; rintro e w3 ⟨rfl, b3⟩)
      go_ret
      exact ⟨by rw [HP.out]; rfl, B2.out.trans (b3.mono B2.out.size)⟩
end Go.Proofs.Ytckikigjleckeaa

/-
  Contracts of the landed package line: Col, Place.
-/
import Derived.Test.YtckikigjleckeaaLinOwn
import Derived.Test.YtckikigjleckeaaGlyProof
import Derived.Deep.RegionWith
namespace Go.Proofs.Ytckikigjleckeaa
open Go.RowKit

attribute [local irreducible] boundsL countL wholeL begL endL
set_option maxHeartbeats 1000000 in
theorem linCol_any (S : List UInt8) (hs : S.length ≤ 1000000) (p : Int) (w : World) :
    Calls Try.prog 71 #[.string ⟨S.toArray⟩, .int .i64 p] w fun e w' => ∃ i : Nat, e = .returned (.int .i64 (colAt S (width ((chars S).take i)) : Nat)) ∧ Which (chars S) p i ∧ Below w.heap.size w w' := by
  go_enter Try.func71, Try.ntmps71
  go_upto_region 2 with (go_at_call 38; refine (glyAlign_any S p _ hs).mono ?_; rintro e w1 ⟨i, rfl, hwh, b1⟩)
  have HW := Lib.hid hwh
  have hil := hwh.le
  have HC := Lib.hid (col_eq hil)
  have hle := (read_take hil).le
  have ho : ofL S ((width ((chars S).take i) : Nat) : Int) = (endsTo S (width ((chars S).take i))).length := by
    unfold ofL; rw [Int.toNat_natCast, Nat.min_eq_right hle]
  obtain ⟨h1, h2, h3⟩ := place_line hle
  rw [← ho] at h1 h2 h3
  generalize hA : width ((chars S).take i) = a at *
  have HA := Lib.hid hA
  obtain ⟨n, hn⟩ : ∃ n, ofL S (a : Int) = n := ⟨_, rfl⟩
  have HN := Lib.hid hn
  rw [hn] at h1 h2 h3
  have HC2 : Hid (colAt S a = (chars ((S.drop (begL S n)).take (a - begL S n))).length) := by
    have := HC.out
    rw [hn] at this
    exact this
  have HH := Lib.hid h1
  have HT := Lib.hid (text_slice S (begL S n) a h2)
  have hms : ((S.drop (begL S n)).take (a - begL S n)).length ≤ 1000000 := by rw [List.length_take, List.length_drop]; omega
  obtain ⟨M, hM⟩ : ∃ M, (S.drop (begL S n)).take (a - begL S n) = M := ⟨_, rfl⟩
  have HM := Lib.hid hM
  rw [hM] at hms
  have hI1 : (begL S n : Int) ≤ (a : Int) := by omega
  have hI2 : (a : Int) ≤ (S.length : Int) := by omega
  have z1 := b1.size
  have HMS := Lib.hid hms
  clear hA hM hn HC h1 h3 ho hil hwh hms
  go_wp2_with (first
    | (go_at_call 39; refine (linOf_any S hs (a : Int) _).mono ?_; rintro e w2 ⟨rfl, b2⟩; rw [HN.out])
    | (go_at_call 60; refine (linBegEnd_any S hs n HH.out _).mono ?_; rintro e w3 ⟨rfl, b3⟩)
    | (go_at_call 85; rw [HT.out, HM.out]; refine (glyCount_any M HMS.out _).mono ?_; rintro e w4 ⟨rfl, b4⟩))
  go_ret
  have z2 := b2.size
  have z3 := b3.size
  exact ⟨i, by rw [HA.out, HC2.out, HM.out]; rfl, HW.out, ((b1.trans (b2.mono z1)).trans (b3.mono (by omega))).trans (b4.mono (by omega))⟩

/-- the place behind a sign of a line -/
theorem next_in {S : List UInt8} {n : Nat} (h : n < countL S) {k : Nat} (hk : k < (signsL S n).length) {i : Nat} (hi : Which (chars S) ((begL S n + width ((signsL S n).take k) : Nat) : Int) i) :
    width ((chars S).take (i + 1)) = begL S n + width ((signsL S n).take (k + 1)) := (sign_of h hk hi).2.2
theorem width_fullC {S : List UInt8} {n : Nat} (h : n < countL S) : begL S n + width (signsL S n) = endL S n := by
  obtain ⟨A, C, h1, h2, h3, h4⟩ := line_signs h
  omega
/-- behind the line's last place there is no more of it -/
theorem next_out {S : List UInt8} {n : Nat} (h : n < countL S) {i : Nat} (hi : Which (chars S) ((endL S n : Nat) : Int) i) : endL S n ≤ width ((chars S).take (i + 1)) := by
  rcases Nat.lt_or_ge i (chars S).length with hl | hl
  · have := hi.here hl
    omega
  · have := end_le h
    rw [List.take_of_length_le (by omega), width_chars]; exact this
theorem width_ltC {l : List (Nat × Nat)} (hl : ∀ x ∈ l, 1 ≤ x.2) {k : Nat} (hk : k < l.length) : width (l.take k) < width l := by
  have h1 := width_succ l k hk
  have h2 := width_le_take l (k + 1)
  have := hl _ (List.getElem_mem hk)
  omega

set_option maxHeartbeats 1000000 in
theorem linPlace_any (S : List UInt8) (hs : S.length ≤ 1000000) (n col : Int) (w : World) :
    Calls Try.prog 70 #[.string ⟨S.toArray⟩, .int .i64 n, .int .i64 col] w fun e w' => e = .returned (.int .i64 (placeL S n col : Nat)) ∧ Below w.heap.size w w' := by
  have hb : broughtL S n < countL S := by have := countL_pos S; unfold broughtL; omega
  have HP := Lib.hid (placeL_eq (S := S) (n := n) (col := col))
  obtain ⟨q, hq⟩ : ∃ q, broughtL S n = q := ⟨_, rfl⟩
  have HQ := Lib.hid hq
  rw [hq] at hb HP
  have hcl := countL_le S
  have HB := Lib.hid hb
  have HI := Lib.hid (fun k (hk : k < (signsL S q).length) i hi => next_in hb hk (i := i) hi)
  have HO := Lib.hid (fun i hi => next_out hb (i := i) hi)
  have HF := Lib.hid (width_fullC hb)
  have HWD : Hid (∀ x ∈ signsL S q, 1 ≤ x.2) := (chars_wide : ∀ x ∈ chars (lineL S q), 1 ≤ x.2)
  have hfull := width_fullC hb
  have hel := end_le hb
  have hBl : (signsL S q).length ≤ S.length := by
    have h1 := chars_len (lineL S q)
    have h2 : (lineL S q).length ≤ S.length := by unfold lineL; rw [List.length_take, List.length_drop]; omega
    unfold signsL; omega
  clear hq hb
  generalize signsL S q = B at *
  generalize hFq : begL S q = F at *
  generalize hTq : endL S q = T at *
  have HFQ := Lib.hid hFq
  have HTQ := Lib.hid hTq
  clear hFq hTq
  have hwl : ∀ k, width (B.take k) ≤ width B := fun k => width_le_take B k
  have HWL := Lib.hid hwl
  clear hwl
  go_enter Try.func70, Try.ntmps70
  go_upto_region 4 with (first
    | (go_at_call 67; refine (linClamp_any S hs n _).mono ?_; rintro e w1 ⟨rfl, b1⟩; rw [HQ.out])
    | (go_at_call 60; refine (linBegEnd_any S hs q HB.out _).mono ?_; rintro e w2 ⟨rfl, b2⟩; rw [HFQ.out, HTQ.out]))
  have B2 := Lib.hid (b1.trans (b2.mono b1.size))
  clear b1 b2
  go_wp2_with fail
  go_loopw [9, 21] (fun v j wr => ∃ k : Nat, k ≤ col.toNat ∧ k ≤ B.length - 1 ∧ j = .int .i64 k ∧ v = .int .i64 (F + width (B.take k) : Nat) ∧ Below w2.heap.size w2 wr) (fun _ j _ => B.length - (intOf j).toNat)
  case atStart => exact ⟨0, Nat.zero_le _, Nat.zero_le _, rfl, by rw [List.take_zero]; rfl, Below.refl _ _⟩
  case round =>
    obtain ⟨k, hk, hkB, rfl, rfl, hb⟩ := hrel
    have hz := hb.size
    by_cases hlt : (k : Int) < col
    · by_cases hB0 : k < B.length
      · have HX := Lib.hid (HI.out k hB0)
        by_cases hB1 : k + 1 < B.length
        · have hlw := width_ltC HWD.out hB1
          have HXX := Lib.hid (hlw)
          have hge : ¬ (T : Int) ≤ ((F + width (B.take (k + 1)) : Nat) : Int) := by omega
          obtain ⟨x, hx⟩ : ∃ x, F + width (B.take k) = x := ⟨_, rfl⟩
          obtain ⟨y, hy⟩ : ∃ y, F + width (B.take (k + 1)) = y := ⟨_, rfl⟩
          have HY := Lib.hid hy
          rw [hx] at HX
          rw [hy] at HX hge
          rw [hx]
          clear hx hy hlw HXX
          go_wp2_with (go_at_call 68; refine (glyNext_any S (x : Int) _ hs).mono ?_; rintro e w3 ⟨i, rfl, hi, b3⟩; rw [HX.out i hi]; clear hi)
          go_roundw
          case rel => exact ⟨k + 1, by omega, by omega, by go_num, by rw [HY.out], hb.trans (b3.mono hz)⟩
          case measure => simp [intOf]; omega
        · have HR : Hid (placeL S n col = F + width (B.take k)) := by
            show placeL S n col = _
            rw [HP.out, Nat.min_eq_right (by omega), show B.length - 1 = k by omega]
          have hy : F + width (B.take (k + 1)) = T := by rw [List.take_of_length_le (by omega)]; exact HF.out
          rw [hy] at HX
          obtain ⟨x, hx⟩ : ∃ x, F + width (B.take k) = x := ⟨_, rfl⟩
          rw [hx] at HX HR
          rw [hx]
          clear hx hy
          have hTT : (T : Int) ≤ (T : Int) := Int.le_refl _
          go_wp2_with (go_at_call 68; refine (glyNext_any S (x : Int) _ hs).mono ?_; rintro e w3 ⟨i, rfl, hi, b3⟩; rw [HX.out i hi]; clear hi)
          go_ret
          exact ⟨by rw [HR.out]; rfl, B2.out.trans ((hb.trans (b3.mono hz)).mono (by have := B2.out.size; omega))⟩
      · obtain rfl : k = 0 := by omega
        obtain rfl : B = [] := List.eq_nil_of_length_eq_zero (by omega)
        have hFT : F = T := by have := HF.out; simpa [width] using this
        have HR : Hid (placeL S n col = T) := by
          show placeL S n col = _
          rw [HP.out, hFT]; simp [width]
        rw [List.take_nil, show F + width [] = T from hFT]
        clear hFT
        go_wp2_with (go_at_call 68; refine (glyNext_any S (T : Int) _ hs).mono ?_; rintro e w3 ⟨i, rfl, hi, b3⟩; have hle := HO.out i hi; clear hi; generalize width ((chars S).take (i + 1)) = y at *; have hleI : (T : Int) ≤ (y : Int) := by omega)
        go_ret
        exact ⟨by rw [HR.out]; rfl, B2.out.trans ((hb.trans (b3.mono hz)).mono (by have := B2.out.size; omega))⟩
    · have HR : Hid (placeL S n col = F + width (B.take k)) := by
        show placeL S n col = _
        rw [HP.out, Nat.min_eq_left (by omega)]
        congr 3
        omega
      generalize width (B.take k) = x at *
      go_wp2_with fail
      go_ret
      exact ⟨by rw [HR.out]; rfl, B2.out.trans (hb.mono (by have := B2.out.size; omega))⟩
end Go.Proofs.Ytckikigjleckeaa

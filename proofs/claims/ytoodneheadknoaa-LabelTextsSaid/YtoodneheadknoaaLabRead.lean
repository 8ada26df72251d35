/-
  Contracts for package label: leadingNumber, Parse.
-/
import Derived.Test.YtoodneheadknoaaLabParse
namespace Go.Proofs.Ytoodneheadknoaa
open Go.RowKit

theorem lead_if (s : List UInt8) {k v : Nat} (hk : (digRun s).length = k) (hv : valOf (digRun s) = v) : lead s = if k = 2 ∧ v < 10 ∨ 64 ≤ v then (0, 0) else (v, k) := by
  subst hk hv; rfl

set_option maxHeartbeats 1000000 in
theorem leadingNumber_any (s : List UInt8) (hs : s.length ≤ maxLen) (w : World) :
    Calls Try.prog 33 #[.string ⟨s.toArray⟩] w fun e w' => e = .returned (.tuple #[.int .i64 ((lead s).1 : Nat), .int .i64 ((lead s).2 : Nat)]) ∧ w = w' := by
  unfold maxLen at hs
  have hl := digRun_le s
  go_enter Try.func33, Try.ntmps33
  go_wp2
  go_loop [4, 5] (fun c i => ∃ k : Nat, k ≤ (digRun s).length ∧ i = .int .i64 k ∧ c = .int .i64 (valOf ((digRun s).take k) : Nat) ∧ valOf ((digRun s).take k) ≤ 100) (fun _ i => 2 - (intOf i).toNat)
  case atStart => exact ⟨0, Nat.zero_le _, rfl, rfl, by simp [valOf]⟩
  case round =>
    obtain ⟨k, hk, rfl, rfl, hv⟩ := hrel
    by_cases hlt : k < (digRun s).length
    · obtain ⟨hks, he, hd⟩ := digRun_get s k hlt
      have hdn := dig_nat hd
      have HV : Hid (valOf ((digRun s).take (k + 1)) = 10 * valOf ((digRun s).take k) + (s[k].toNat - 48)) := by
        show valOf _ = _
        rw [take_snoc _ k hlt, valOf_snoc, he]
      have HB : Hid (valOf ((digRun s).take (k + 1)) ≤ 100) := by
        show valOf _ ≤ 100
        have hle : ((digRun s).take (k + 1)) = [s[0]'(by omega)] ∨ ∃ h1 : 1 < s.length, ((digRun s).take (k + 1)) = [s[0]'(by omega), s[1]] := by
          match k, hlt with
          | 0, hlt =>
            left
            rw [take_snoc _ 0 hlt]
            obtain ⟨_, e0, _⟩ := digRun_get s 0 hlt
            rw [← e0]; simp
          | 1, hlt =>
            right
            obtain ⟨_, e0, _⟩ := digRun_get s 0 (by omega)
            obtain ⟨h1, e1, _⟩ := digRun_get s 1 hlt
            refine ⟨h1, ?_⟩
            rw [take_snoc _ 1 hlt, take_snoc _ 0 (by omega), ← e0, ← e1]; simp
          | k + 2, hlt => omega
        rcases hle with e | ⟨h1, e⟩
        · rw [e]
          obtain ⟨_, _, d0⟩ := digRun_get s 0 (by omega)
          have := dig_nat d0
          simp [valOf]; omega
        · rw [e]
          have h2 : 2 ≤ (digRun s).length := by
            have := congrArg List.length e
            rw [List.length_take] at this
            simp at this
            omega
          obtain ⟨_, _, d0⟩ := digRun_get s 0 (by omega)
          obtain ⟨_, _, d1⟩ := digRun_get s 1 (by omega)
          have := dig_nat d0
          have := dig_nat d1
          simp [valOf]; omega
      have hget : ({ data := s.toArray } : ByteArray)[k]'(by simpa [ByteArray.size] using hks) = s[k] := rfl
      clear hd he
      generalize s[k] = b at *
      generalize valOf ((digRun s).take k) = v at *
      have h1 : (48 : Int) ≤ (b.toNat : Int) := by omega
      have h2 : (b.toNat : Int) ≤ 57 := by omega
      go_wp2
      go_round
      case rel => exact ⟨k + 1, by omega, by go_num, by rw [HV.out]; congr 1; simp; omega, HB.out⟩
      case measure => simp [intOf]; omega
    · have hkk : (digRun s).length = k := by omega
      have HK := Lib.hid hkk
      rw [List.take_of_length_le (by omega)] at hv ⊢
      have HE := Lib.hid (fun h2 h => digRun_end s h2 h)
      generalize hvv : valOf (digRun s) = v at *
      have HV := Lib.hid hvv
      have HR := Lib.hid (lead_if s hkk hvv)
      clear hvv hkk
      by_cases c1 : s.length ≤ k
      · go_wp2
        all_goals
          go_ret2
          exact ⟨by rw [HR.out]; first | (rw [if_pos (by omega)]; rfl) | (rw [if_neg (by omega)]; rfl) | (obtain rfl : k = 2 := (by omega); rw [if_neg (by omega)]; rfl), rfl⟩
      · by_cases c2 : 2 ≤ k
        · go_wp2
          all_goals
            go_ret2
            exact ⟨by rw [HR.out]; first | (rw [if_pos (by omega)]; rfl) | (rw [if_neg (by omega)]; rfl) | (obtain rfl : k = 2 := (by omega); rw [if_neg (by omega)]; rfl), rfl⟩
        · have hb : isDig (s[k]'(by omega)) = false := by
            have := HE.out (by rw [HK.out]; omega) (by rw [HK.out]; omega)
            simpa [HK.out] using this
          have hget : ({ data := s.toArray } : ByteArray)[k]'(by simp [ByteArray.size]; omega) = s[k]'(by omega) := rfl
          clear HE
          generalize s[k]'(by omega) = b at *
          by_cases c3 : (48 : Int) ≤ (b.toNat : Int)
          · have c4 : (57 : Int) < (b.toNat : Int) := by
              unfold isDig at hb
              simp at hb
              omega
            clear hb
            go_wp2
            all_goals
              go_ret2
              exact ⟨by rw [HR.out]; first | (rw [if_pos (by omega)]; rfl) | (rw [if_neg (by omega)]; rfl) | (obtain rfl : k = 2 := (by omega); rw [if_neg (by omega)]; rfl), rfl⟩
          · clear hb
            go_wp2
            all_goals
              go_ret2
              exact ⟨by rw [HR.out]; first | (rw [if_pos (by omega)]; rfl) | (rw [if_neg (by omega)]; rfl) | (obtain rfl : k = 2 := (by omega); rw [if_neg (by omega)]; rfl), rfl⟩
end Go.Proofs.Ytoodneheadknoaa

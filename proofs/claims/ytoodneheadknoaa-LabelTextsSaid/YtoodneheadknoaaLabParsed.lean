/-
  The contract for package label: Parse.
-/
import Derived.Test.YtoodneheadknoaaLabRead
namespace Go.Proofs.Ytoodneheadknoaa
open Go.RowKit

theorem text_cut (s : List UInt8) (k : Nat) : ({ data := s.toArray } : ByteArray).extract k s.length = ⟨(s.drop k).toArray⟩ := by
  apply ByteArray.ext
  rw [ByteArray.data_extract]
  apply Array.ext'
  simp
  exact List.take_of_length_le (by rw [List.length_drop]; omega)

/-- what Parse answers -/
def parseEnd (o : Option Nat) : Value := match o with | some l => .tuple #[.int .u64 (l : Int), .int .i64 0] | none => .tuple #[.int .u64 0, .int .i64 5]
def strLen : Value → Nat | .string s => s.size | _ => 0
theorem lab_pos_lt {S s : List UInt8} {cs : List Nat} {least : Nat} (h : PInv S cs s least) : lab cs < 18446744073709551616 := lab_lt cs h.small

set_option maxHeartbeats 1000000 in
theorem parse_any (S : List UInt8) (hs : S.length ≤ maxLen) (w : World) :
    Calls Try.prog 26 #[.string ⟨S.toArray⟩] w fun e w' => ∃ r, e = .returned (parseEnd r) ∧ Told S r ∧ w = w' := by
  by_cases h45 : S = [45]
  · subst h45
    go_enter Try.func26, Try.ntmps26
    go_wp2
    go_ret2
    exact ⟨some 0, rfl, ⟨by decide, rfl⟩, rfl⟩
  · have hne : (S == [45]) = false := by simpa using h45
    unfold maxLen at hs
    have H45 := Lib.hid h45
    clear h45
    go_enter Try.func26, Try.ntmps26
    go_wp2
    go_loop [0, 4, 5] (fun v l m => ∃ cs s least, v = .string ⟨s.toArray⟩ ∧ l = .int .u64 (lab cs : Nat) ∧ m = .int .i64 (least : Nat) ∧ PInv S cs s least ∧ s.length ≤ S.length ∧ least ≤ 64) (fun v _ _ => strLen v)
    case atStart => exact ⟨[], S, 0, rfl, rfl, rfl, PInv.start S, Nat.le_refl _, by omega⟩
    case round =>
      obtain ⟨cs, s, least, rfl, rfl, rfl, hp, hsl, h64⟩ := hrel
      have hll := lab_pos_lt hp
      have HP := Lib.hid hp
      clear hp hne
      obtain ⟨c, n, hle⟩ : ∃ c n, lead s = (c, n) := ⟨_, _, rfl⟩
      have HL := Lib.hid hle
      by_cases h0 : n = 0
      · subst h0
        have hc0 := lead_no hle rfl
        subst hc0
        have HR := Lib.hid (HP.out.none1 H45.out hle (.inl rfl))
        clear hle
        go_wp2_with (go_at_call 33; refine (leadingNumber_any s (by unfold maxLen; omega) _).mono ?_; rintro e w1 ⟨rfl, rfl⟩; rw [HL.out])
        go_ret2
        exact ⟨none, rfl, HR.out, rfl⟩
      · obtain ⟨hc64, hnl, -, -⟩ := lead_yes hle h0
        have hb0 : ((n : Int) == 0) = false := by simp; omega
        by_cases hcl : c < least
        · have HR := Lib.hid (HP.out.none1 H45.out hle (.inr hcl))
          clear hle
          go_wp2_with (go_at_call 33; refine (leadingNumber_any s (by unfold maxLen; omega) _).mono ?_; rintro e w1 ⟨rfl, rfl⟩; rw [HL.out])
          go_ret2
          exact ⟨none, rfl, HR.out, rfl⟩
        · have hpw := pow_lt hc64
          by_cases hns : n = s.length
          · have HR := Lib.hid (HP.out.done hle h0 (by omega) hns)
            clear hle
            have hb1 : ((n : Int) == (s.length : Int)) = true := by simp [hns]
            have HN := Lib.hid hns
            clear hns
            go_wp2_with (first
              | (go_at_call 33; refine (leadingNumber_any s (by unfold maxLen; omega) _).mono ?_; rintro e w1 ⟨rfl, rfl⟩; rw [HL.out])
              | (go_at_call 32; refine (only_any c hc64 _).mono ?_; rintro e w1 ⟨rfl, rfl⟩)
              | (go_at_call 11; refine (join_any _ _ hll hpw _).mono ?_; rintro e w1 ⟨rfl, rfl⟩))
            go_ret2
            exact ⟨_, rfl, HR.out, rfl⟩
          · have hb1 : ((n : Int) == (s.length : Int)) = false := by simp; omega
            have hnlt : n < s.length := by omega
            have hget : ({ data := s.toArray } : ByteArray)[n]'(by simpa [ByteArray.size] using hnlt) = s[n] := rfl
            have hidx : s[n]? = some s[n] := List.getElem?_eq_getElem hnlt
            by_cases hd : s[n] = 46
            · have HR := Lib.hid (HP.out.go hle h0 (by omega) (by rw [hidx, hd]))
              have hbd : ((s[n].toNat : Int) != 46) = false := by rw [hd]; rfl
              clear hle hidx hd
              go_wp2_with (first
                | (go_at_call 33; refine (leadingNumber_any s (by unfold maxLen; omega) _).mono ?_; rintro e w1 ⟨rfl, rfl⟩; rw [HL.out])
                | (go_at_call 32; refine (only_any c hc64 _).mono ?_; rintro e w1 ⟨rfl, rfl⟩)
                | (go_at_call 11; refine (join_any _ _ hll hpw _).mono ?_; rintro e w1 ⟨rfl, rfl⟩))
              go_round
              case rel => exact ⟨cs ++ [c], s.drop (n + 1), c + 1, by rw [text_cut], by rw [lab_snoc], by go_num, HR.out, by rw [List.length_drop]; omega, by omega⟩
              case measure => rw [text_cut]; simp [strLen, ByteArray.size]; omega
            · have HR := Lib.hid (HP.out.none2 H45.out hle hns (by rw [hidx]; simpa using hd))
              have hbd : ((s[n].toNat : Int) != 46) = true := by
                simp
                intro h
                apply hd
                have h' : s[n].toNat = 46 := by omega
                exact UInt8.toNat_inj.1 h'
              clear hle hidx hd
              go_wp2_with (first
                | (go_at_call 33; refine (leadingNumber_any s (by unfold maxLen; omega) _).mono ?_; rintro e w1 ⟨rfl, rfl⟩; rw [HL.out])
                | (go_at_call 32; refine (only_any c hc64 _).mono ?_; rintro e w1 ⟨rfl, rfl⟩)
                | (go_at_call 11; refine (join_any _ _ hll hpw _).mono ?_; rintro e w1 ⟨rfl, rfl⟩))
              go_ret2
              exact ⟨none, rfl, HR.out, rfl⟩
end Go.Proofs.Ytoodneheadknoaa

/-
  Contracts of the document's own answers, layer 6: Ends, Count, Of.
-/
import Derived.Test.YtnkhlallnblfmaaLinMath
namespace Go.Proofs.Ytnkhlallnblfmaa
open Go.RowKit

theorem nl_yes {b : UInt8} (h : b = 10) : ((b.toNat : Int) == 10) = true := by subst h; rfl
theorem nl_no {b : UInt8} (h : ¬ b = 10) : ((b.toNat : Int) == 10) = false := by
  have : b.toNat ≠ 10 := fun e => h (UInt8.toNat_inj.1 e)
  simpa using by omega

set_option maxHeartbeats 1000000 in
theorem refEnds_any (S : List UInt8) (hs : S.length ≤ 1000000) (w : World) :
    Calls Try.prog 43 #[.string ⟨S.toArray⟩] w fun e w' => ∃ A c, e = .returned (.slice A (endsL S).length c) ∧ w'.ownsRow w.heap.size 3 1 (.slice A (endsL S).length c) (endsL S).length ((endsL S).map intn) ∧ Below w.heap.size w w' := by
  go_enter Try.func43, Try.ntmps43
  go_wp2_with fail
  go_loopw [3, 4] (fun v i wr => ∃ k : Nat, k ≤ S.length ∧ i = .int .i64 k ∧ wr.ownsRow w.heap.size 3 1 v (endsTo S k).length ((endsTo S k).map intn) ∧ Below w.heap.size w wr) (fun _ i _ => S.length - (intOf i).toNat)
  case atStart => exact ⟨0, Nat.zero_le _, rfl, World.ownsRow_nil _ _ _ _, Below.refl _ _⟩
  case round =>
    obtain ⟨k, hk, rfl, hown, hb⟩ := hrel
    have z := hb.size
    have hel := endsTo_len S k
    by_cases hlt : k < S.length
    · have hg := byte_at S k hlt
      by_cases hb10 : S[k] = 10
      · have HT := Lib.hid (endsTo_yes hlt hb10)
        have hnl := nl_yes hb10
        have HB10 := Lib.hid hb10
        clear hb10
        generalize S[k] = b at *
        obtain ⟨A1, c1, rfl⟩ := own_form hown
        generalize hE : endsTo S k = E at *
        have HEE := Lib.hid hE
        clear hE
        go_wp2_with (at_builtin; refine wpList_push rfl _ _ _ rfl w.heap.size 3 _ 8 elt_int _ _ _ _ rfl hown (.int .i64 (k : Nat)) rfl rfl (by unfold maxLen; omega) (by omega) z ?_; intro v2 w2 hown2 hb2)
        go_roundw
        case rel => exact ⟨k + 1, by omega, by go_num, by rw [HT.out, List.length_append, List.map_append]; exact hown2, hb.trans hb2⟩
        case measure => simp [intOf]; omega
      · have HT := Lib.hid (endsTo_no hlt hb10)
        have hnl := nl_no hb10
        clear hb10
        generalize S[k] = b at *
        go_wp2_with fail
        go_roundw
        case rel => exact ⟨k + 1, by omega, by go_num, by rw [HT.out]; exact hown, hb⟩
        case measure => simp [intOf]; omega
    · obtain rfl : k = S.length := by omega
      obtain ⟨A1, c1, rfl⟩ := own_form hown
      have HEL : Hid (endsL S = endsTo S S.length ++ [S.length]) := rfl
      generalize endsTo S S.length = E at *
      go_wp2_with (at_builtin; refine wpList_push rfl _ _ _ rfl w.heap.size 3 _ 8 elt_int _ _ _ _ rfl hown (.int .i64 (S.length : Nat)) rfl rfl (by unfold maxLen; omega) (by omega) z ?_; intro v2 w2 hown2 hb2)
      go_ret
      obtain ⟨A2, c2, rfl⟩ := own_form hown2
      refine ⟨A2, c2, ?_, ?_, hb.trans hb2⟩
      · rw [HEL.out, List.length_append]; rfl
      · rw [HEL.out, List.length_append, List.map_append]; exact hown2

set_option maxHeartbeats 1000000 in
theorem refOf_any (S : List UInt8) (hs : S.length ≤ 1000000) (p : Int) (w : World) :
    Calls Try.prog 21 #[.string ⟨S.toArray⟩, .int .i64 p] w fun e w' => e = .returned (.int .i64 (ofL S p : Nat)) ∧ Below w.heap.size w w' := by
  go_enter Try.func21, Try.ntmps21
  go_wp2_with fail
  go_loopw [5, 6] (fun n i wr => ∃ k : Nat, k ≤ min S.length p.toNat ∧ i = .int .i64 k ∧ n = .int .i64 ((endsTo S k).length : Nat) ∧ Below w.heap.size w wr) (fun _ i _ => S.length - (intOf i).toNat)
  case atStart => exact ⟨0, Nat.zero_le _, rfl, rfl, Below.refl _ _⟩
  case round =>
    obtain ⟨k, hk, rfl, rfl, hb⟩ := hrel
    have hel := endsTo_len S k
    have hkS : k ≤ S.length := by omega
    by_cases hlt : k < S.length
    · have hlt' : (k : Int) < (S.length : Int) := by omega
      by_cases hp : (k : Int) < p
      · have hg := byte_at S k hlt
        by_cases hb10 : S[k] = 10
        · have HT := Lib.hid (endsTo_yes hlt hb10)
          have hnl := nl_yes hb10
          clear hb10
          generalize S[k] = b at *
          generalize endsTo S k = E at *
          go_wp2_with fail
          go_roundw
          case rel => exact ⟨k + 1, by omega, by go_num, by rw [HT.out, List.length_append]; go_num, hb⟩
          case measure => simp [intOf]; omega
        · have HT := Lib.hid (endsTo_no hlt hb10)
          have hnl := nl_no hb10
          clear hb10
          generalize S[k] = b at *
          go_wp2_with fail
          go_roundw
          case rel => exact ⟨k + 1, by omega, by go_num, by rw [HT.out], hb⟩
          case measure => simp [intOf]; omega
      · have HK : Hid (min S.length p.toNat = k) := by show _ = _; omega
        go_wp2_with fail
        go_ret
        exact ⟨by unfold ofL; rw [HK.out]; rfl, hb⟩
    · have hlt' : ¬ (k : Int) < (S.length : Int) := by omega
      have HK : Hid (min S.length p.toNat = k) := by show _ = _; omega
      go_wp2_with fail
      go_ret
      exact ⟨by unfold ofL; rw [HK.out]; rfl, hb⟩
end Go.Proofs.Ytnkhlallnblfmaa

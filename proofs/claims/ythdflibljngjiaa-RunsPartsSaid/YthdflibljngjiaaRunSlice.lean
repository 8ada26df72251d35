/-
  Contracts of the document's own answers, layer 3: joined, within.
-/
import Derived.Test.YthdflibljngjiaaRunNormal
namespace Go.Proofs.Ythdflibljngjiaa
open Go.RowKit

set_option maxHeartbeats 1000000 in
theorem refJoined_any (A A2 : Option Addr) (c d B B2 : Nat) (a b : List Nat) (ha : a.length ≤ 1000000) (hb0 : b.length ≤ 1000000) (w : World) (hB : B ≤ w.heap.size) (hB2 : B2 ≤ w.heap.size) (h1 : Row w B A (a.map u64v)) (h2 : Row w B2 A2 (b.map u64v)) :
    Calls Try.prog 41 #[.slice A a.length c, .slice A2 b.length d] w fun e w' => ∃ A' c', e = .returned (.slice A' (a ++ b).length c') ∧
      w'.ownsRow w.heap.size 33 1 (.slice A' (a ++ b).length c') (a ++ b).length ((a ++ b).map u64v) ∧ Below w.heap.size w w' := by
  go_enter Try.func41, Try.ntmps41
  go_wp2
  go_loopw [5, 6] (fun v i wr => ∃ k : Nat, k ≤ a.length ∧ i = .int .i64 k ∧ wr.ownsRow w.heap.size 33 1 v k ((a.take k).map u64v) ∧ Below w.heap.size w wr) (fun _ i _ => a.length - (intOf i).toNat)
  case atStart => exact ⟨0, Nat.zero_le _, rfl, World.ownsRow_nil _ _ _ _, Below.refl _ _⟩
  case round =>
    obtain ⟨k, hk, rfl, hown, hb⟩ := hrel
    have z := hb.size
    by_cases hlt : k < a.length
    · obtain ⟨ad, rfl, hbl, hcell⟩ := (h1.below (hb.mono hB)).map_at hlt
      have HS : Hid (a.take (k + 1) = a.take k ++ [a[k]]) := List.take_succ_eq_append_getElem hlt
      unfold u64v at hcell
      generalize a[k] = x at *
      go_wp2_with (at_builtin; refine wpList_push rfl _ _ _ rfl w.heap.size 33 _ 8 elt_label _ _ _ _ rfl hown (.int .u64 (x : Nat)) rfl rfl (by unfold maxLen; omega) (by omega) z ?_; intro v3 w3 hown3 hb3)
      go_roundw
      case rel => exact ⟨k + 1, by omega, by go_num, by rw [HS.out, List.map_append]; exact hown3, hb.trans hb3⟩
      case measure => simp [intOf]; omega
    · obtain rfl : k = a.length := by omega
      rw [List.take_length] at hown
      go_wp2
      go_loopw [5, 7] (fun v i wr => ∃ k : Nat, k ≤ b.length ∧ i = .int .i64 k ∧ wr.ownsRow w.heap.size 33 1 v (a.length + k) ((a ++ b.take k).map u64v) ∧ Below w.heap.size w wr) (fun _ i _ => b.length - (intOf i).toNat)
      case atStart => exact ⟨0, Nat.zero_le _, rfl, by simpa using hown, hb⟩
      case round =>
        clear hown hb z
        obtain ⟨k, hk, rfl, hown, hb⟩ := hrel
        have z := hb.size
        by_cases hlt : k < b.length
        · obtain ⟨ad, rfl, hbl, hcell⟩ := (h2.below (hb.mono hB2)).map_at hlt
          have HS : Hid (a ++ b.take (k + 1) = (a ++ b.take k) ++ [b[k]]) := by show _ = _; rw [List.take_succ_eq_append_getElem hlt, List.append_assoc]
          unfold u64v at hcell
          generalize b[k] = x at *
          go_wp2_with (at_builtin; refine wpList_push rfl _ _ _ rfl w.heap.size 33 _ 8 elt_label _ _ _ _ rfl hown (.int .u64 (x : Nat)) rfl rfl (by unfold maxLen; omega) (by omega) z ?_; intro v3 w3 hown3 hb3)
          go_roundw
          case rel => exact ⟨k + 1, by omega, by go_num, by rw [HS.out, List.map_append, ← Nat.add_assoc]; exact hown3, hb.trans hb3⟩
          case measure => simp [intOf]; omega
        · obtain rfl : k = b.length := by omega
          rw [List.take_length] at hown
          have HL : Hid ((a ++ b).length = a.length + b.length) := List.length_append
          rw [← HL.out] at hown
          obtain ⟨A1, c1, rfl⟩ := own_form hown
          go_wp2
          go_ret
          exact ⟨A1, c1, rfl, hown, hb⟩
end Go.Proofs.Ythdflibljngjiaa

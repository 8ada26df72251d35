/-
  Contracts of the document's own answers, layer 3: Bytes.
-/
import Derived.Test.YthdflibljngjiaaRunRow
namespace Go.Proofs.Ythdflibljngjiaa
open Go.RowKit

theorem bytesOf_succ (l : List RunP) (k : Nat) (h : k < l.length) : bytesOf (l.take (k + 1)) = bytesOf (l.take k) ++ List.replicate l[k].2.toNat l[k].1 := by
  rw [List.take_succ_eq_append_getElem h, bytesOf_append, bytesOf_one]
theorem bytesOf_take_len (l : List RunP) (k : Nat) : (bytesOf (l.take k)).length ≤ sumN l := by rw [bytesOf_len]; exact sumN_take_le l k

set_option maxHeartbeats 1000000 in
theorem refBytes_any (A : Option Addr) (c B : Nat) (l : List RunP) (hf : Fits l) (hlen : l.length ≤ maxLen) (hsum : sumN l ≤ 4096) (w : World) (hB : B ≤ w.heap.size) (h : Row w B A (flatR l)) :
    Calls Try.prog 34 #[.slice A l.length c] w fun e w' => ∃ A' c', e = .returned (.slice A' (bytesOf l).length c') ∧
      w'.ownsRow w.heap.size 33 1 (.slice A' (bytesOf l).length c') (bytesOf l).length ((bytesOf l).map u64v) ∧ Below w.heap.size w w' := by
  unfold maxLen at hlen
  have HF := Lib.hid hf
  clear hf
  go_enter Try.func34, Try.ntmps34
  go_wp2
  go_loopw [3, 4] (fun v i wr => ∃ k : Nat, k ≤ l.length ∧ i = .int .i64 k ∧ wr.ownsRow w.heap.size 33 1 v (bytesOf (l.take k)).length ((bytesOf (l.take k)).map u64v) ∧ Below w.heap.size w wr) (fun _ i _ => l.length - (intOf i).toNat)
  case atStart => exact ⟨0, Nat.zero_le _, rfl, World.ownsRow_nil _ _ _ _, Below.refl _ _⟩
  case round =>
    obtain ⟨k, hk, rfl, hown, hb⟩ := hrel
    by_cases hlt : k < l.length
    · obtain ⟨ad, rfl, hbl, _, _⟩ := run_cells (h.below (hb.mono hB)) hlt
      have hfk := HF.out l[k] (List.getElem_mem hlt)
      have HS : Hid (bytesOf (l.take (k + 1)) = bytesOf (l.take k) ++ List.replicate l[k].2.toNat l[k].1) := bytesOf_succ l k hlt
      have hle := bytesOf_take_len l (k + 1)
      rw [HS.out, List.length_append, List.length_replicate] at hle
      go_wp2
      go_loopw [3, 5] (fun v j wr => ∃ m : Nat, (m : Int) ≤ max l[k].2 0 ∧ j = .int .i64 m ∧ wr.ownsRow w.heap.size 33 1 v ((bytesOf (l.take k)).length + m) ((bytesOf (l.take k) ++ List.replicate m l[k].1).map u64v) ∧ Below w.heap.size w wr) (fun _ j _ => l[k].2.toNat - (intOf j).toNat)
      case atStart => exact ⟨0, by omega, rfl, by simpa using hown, hb⟩
      case round =>
        clear hown hb
        obtain ⟨m, hm, rfl, hown, hb⟩ := hrel
        have z := hb.size
        obtain ⟨ad', e', _, c0, c1⟩ := run_cells (h.below (hb.mono hB)) hlt
        cases e'
        obtain ⟨A1, c2, rfl⟩ := own_form hown
        generalize hr : l[k] = r at *
        have HR := Lib.hid hr
        clear hr
        obtain ⟨x, n⟩ := r
        dsimp only at *
        by_cases hmn : (m : Int) < n
        · have hsz : w.heap.size ≤ wr.heap.size := z
          go_wp2_with (at_builtin; refine wpList_push rfl _ _ _ rfl w.heap.size 33 _ 8 elt_label _ _ _ _ rfl hown (.int .u64 (x : Nat)) rfl rfl (by unfold maxLen; omega) (by omega) hsz ?_; intro v3 w3 hown3 hb3)
          go_roundw
          case rel => exact ⟨m + 1, by omega, by go_num, by rw [List.replicate_succ', ← List.append_assoc, List.map_append]; exact hown3, hb.trans hb3⟩
          case measure => simp [intOf]; omega
        · obtain rfl : m = n.toNat := by omega
          go_wp2
          go_roundw
          case rel => exact ⟨k + 1, by omega, by go_num, by rw [HS.out, List.length_append, List.length_replicate]; exact hown, hb⟩
          case measure => simp [intOf]; omega
    · obtain rfl : k = l.length := by omega
      rw [List.take_length] at hown
      obtain ⟨A1, c1, rfl⟩ := own_form hown
      go_wp2
      go_ret
      exact ⟨A1, c1, rfl, hown, hb⟩
end Go.Proofs.Ythdflibljngjiaa

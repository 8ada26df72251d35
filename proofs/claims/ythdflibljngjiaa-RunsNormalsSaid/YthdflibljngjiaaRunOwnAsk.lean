/-
  Contracts of the landed package runs: At, All.
-/
import Derived.Test.YthdflibljngjiaaRunOwn
namespace Go.Proofs.Ythdflibljngjiaa
open Go.RowKit

set_option maxHeartbeats 2000000 in
theorem runAt_any (A : Option Addr) (c B : Nat) (l : List RunP) (p : Int) (hp : -9223372036854775808 ≤ p ∧ p ≤ 9223372036854775807) (hf : Fits l) (hlen : l.length ≤ maxLen) (w : World) (hB : B ≤ w.heap.size) (h : Row w B A (flatR l)) :
    Calls Try.prog 19 #[.slice A l.length c, .int .i64 p] w fun e w' => e = .returned (.tuple #[.int .u64 ((atOf l p).1 : Nat), .bool (atOf l p).2]) ∧ Below w.heap.size w w' := by
  have hlen0 := hlen
  unfold maxLen at hlen
  have HF := Lib.hid hf
  clear hf
  by_cases h0 : p < 0
  · have HR := Lib.hid (atOf_neg (l := l) (p := p) (by omega))
    go_enter Try.func19, Try.ntmps19
    go_wp2_with (fail)
    go_ret2
    exact ⟨by rw [HR.out]; rfl, Below.refl _ _⟩
  · by_cases hg : goodB l = true
    · have HT := Lib.hid (totalOf_good hg)
      have HN := Lib.hid ((neat_idx l).1 ((goodB_iff l).1 hg).2)
      have hsum := ((goodB_iff l).1 hg).1
      have HBL := Lib.hid (bytesOf_len l)
      have hd0 : decide (p < 0) = false := decide_eq_false h0
      go_enter Try.func19, Try.ntmps19
      go_wp2_with (go_at_call 15; refine (runGood_any A c B l HF.out hlen0 _ hB h).mono ?_; rintro e w1 ⟨rfl, hb1⟩; rw [hg]; have z1 := hb1.size)
      go_loopw [1, 17] (fun a i wr => ∃ k : Nat, k ≤ l.length ∧ i = .int .i64 k ∧ a = .int .i64 (p - (sumN (l.take k) : Nat)) ∧ (sumN (l.take k) : Int) ≤ p ∧ Below w.heap.size w wr) (fun _ i _ => l.length - (intOf i).toNat)
      case atStart => exact ⟨0, Nat.zero_le _, rfl, by simp [sumN], by simp [sumN]; omega, hb1⟩
      case round =>
        obtain ⟨k, hk, rfl, rfl, hn, hb⟩ := hrel
        have z := hb.size
        by_cases hlt : k < l.length
        · obtain ⟨ad, rfl, hbl, c0, c1⟩ := run_cells (h.below (hb.mono hB)) hlt
          have hfk := HF.out l[k] (List.getElem_mem hlt)
          have hs1 := sumN_succ l k hlt
          have hle := sumN_take_le l (k + 1)
          have hpos := (HN.out k hlt).1
          have HAT : Hid (p - (sumN (l.take k) : Nat) < l[k].2 → atOf l p = (l[k].1, true)) := fun hlt2 => by
            have e1 := HT.out
            have e2 := HBL.out
            rw [atOf_pos hg (by omega) (by omega), bytesOf_at hlt (by omega) (by omega)]
          generalize l[k] = r at *
          obtain ⟨x, n⟩ := r
          dsimp only at *
          have HS := Lib.hid hs1
          clear hs1
          generalize sumN (l.take k) = s at *
          by_cases hin : p - (s : Int) < n
          · have HA := Lib.hid (HAT.out hin)
            go_wp2
            go_ret2
            exact ⟨by rw [HA.out]; rfl, hb.alloc z _⟩
          · go_wp2
            go_roundw
            case rel =>
              have := HS.out
              exact ⟨k + 1, by omega, by go_num, by rw [HS.out]; congr 1; omega, by omega, hb.alloc z _⟩
            case measure => simp [intOf]; omega
        · obtain rfl : k = l.length := by omega
          rw [List.take_length] at hn
          have HR : Hid (atOf l p = (0, false)) := by
            show _ = _
            have e1 := HT.out
            have e2 := HBL.out
            exact atOf_neg (by omega)
          go_wp2
          go_ret2
          exact ⟨by rw [HR.out]; rfl, hb⟩
    · have HR := Lib.hid (atOf_neg (l := l) (p := p) (fun h => hg h.1))
      have hg' : goodB l = false := by simpa using hg
      go_enter Try.func19, Try.ntmps19
      go_wp2_with (go_at_call 15; refine (runGood_any A c B l HF.out hlen0 _ hB h).mono ?_; rintro e w1 ⟨rfl, hb1⟩; rw [hg']; have z1 := hb1.size)
      go_ret2
      exact ⟨by rw [HR.out]; rfl, hb1⟩

set_option maxHeartbeats 1000000 in
theorem runAll_any (A : Option Addr) (c B : Nat) (l : List RunP) (hf : Fits l) (hlen : l.length ≤ maxLen) (w : World) (hB : B ≤ w.heap.size) (h : Row w B A (flatR l)) :
    Calls Try.prog 21 #[.slice A l.length c] w fun e w' => e = .returned (.int .u64 ((joinAllN (someOf l) : Nat) : Int)) ∧ Below w.heap.size w w' := by
  unfold maxLen at hlen
  have HF := Lib.hid hf
  clear hf
  go_enter Try.func21, Try.ntmps21
  go_wp2
  go_loopw [3, 8] (fun v i wr => ∃ k : Nat, k ≤ l.length ∧ i = .int .i64 k ∧ v = .int .u64 (joinAllN (someOf (l.take k)) : Nat) ∧ Below w.heap.size w wr) (fun _ i _ => l.length - (intOf i).toNat)
  case atStart => exact ⟨0, Nat.zero_le _, rfl, rfl, Below.refl _ _⟩
  case round =>
    obtain ⟨k, hk, rfl, rfl, hb⟩ := hrel
    have z := hb.size
    by_cases hlt : k < l.length
    · obtain ⟨ad, rfl, hbl, c0, c1⟩ := run_cells (h.below (hb.mono hB)) hlt
      have hfk := HF.out l[k] (List.getElem_mem hlt)
      have HS := Lib.hid (someOf_succ l k hlt)
      have HJ := Lib.hid (joinAllN_lt (someOf (l.take k)) (someOf_mem (fun r hr => HF.out r (List.mem_of_mem_take hr))))
      generalize l[k] = r at *
      obtain ⟨x, n⟩ := r
      dsimp only at *
      by_cases hn : 0 < n
      · have hn' : n > 0 := hn
        rw [if_pos hn] at HS
        have HX : Hid (x < 18446744073709551616) := hfk.1
        go_wp2_with (go_at_call 35; refine (join_any (joinAllN (someOf (l.take k))) x HJ.out HX.out _).mono ?_; rintro e w2 ⟨rfl, rfl⟩)
        go_roundw
        case rel => exact ⟨k + 1, by omega, by go_num, by rw [HS.out, joinAllN_snoc], hb.alloc z _⟩
        case measure => simp [intOf]; omega
      · rw [if_neg hn] at HS
        go_wp2
        go_roundw
        case rel => exact ⟨k + 1, by omega, by go_num, by rw [HS.out], hb.alloc z _⟩
        case measure => simp [intOf]; omega
    · obtain rfl : k = l.length := by omega
      rw [List.take_length]
      go_wp2
      go_ret
      exact ⟨rfl, hb⟩
end Go.Proofs.Ythdflibljngjiaa

/-
  Contracts of the landed package runs: Total, Good, within.
-/
import Derived.Test.YthdflibljngjiaaRunIdx
namespace Go.Proofs.Ythdflibljngjiaa
open Go.RowKit

set_option maxHeartbeats 1000000 in
theorem runTotal_any (A : Option Addr) (c B : Nat) (l : List RunP) (hf : Fits l) (hlen : l.length ≤ maxLen) (w : World) (hB : B ≤ w.heap.size) (h : Row w B A (flatR l)) :
    Calls Try.prog 17 #[.slice A l.length c] w fun e w' => e = .returned (.int .i64 (totalOf l : Nat)) ∧ Below w.heap.size w w' := by
  unfold maxLen at hlen
  have HF := Lib.hid hf
  clear hf
  go_enter Try.func17, Try.ntmps17
  go_wp2
  go_loopw [3, 8] (fun n i wr => ∃ k : Nat, k ≤ l.length ∧ i = .int .i64 k ∧ n = .int .i64 (sumN (l.take k) : Nat) ∧ sumN (l.take k) ≤ 4096 ∧ Below w.heap.size w wr) (fun _ i _ => l.length - (intOf i).toNat)
  case atStart => exact ⟨0, Nat.zero_le _, rfl, rfl, by simp [sumN], Below.refl _ _⟩
  case round =>
    obtain ⟨k, hk, rfl, rfl, hn, hb⟩ := hrel
    have z := hb.size
    by_cases hlt : k < l.length
    · obtain ⟨ad, rfl, hbl, c0, c1⟩ := run_cells (h.below (hb.mono hB)) hlt
      have hfk := HF.out l[k] (List.getElem_mem hlt)
      have hs1 := sumN_succ l k hlt
      have hle := sumN_take_le l (k + 1)
      generalize l[k] = r at *
      obtain ⟨x, n⟩ := r
      dsimp only at *
      have HS := Lib.hid hs1
      clear hs1
      by_cases hbig : n ≥ 4097 - (sumN (l.take k) : Int)
      · have HT : Hid (totalOf l = 4097) := by
          show totalOf l = 4097
          have := HS.out
          unfold totalOf; rw [if_neg (by omega)]
        clear hle
        go_wp2
        go_ret
        exact ⟨by rw [HT.out]; rfl, hb.alloc z _⟩
      · by_cases hpos : 0 ≤ n
        · have hm : max n 0 = n := by omega
          go_wp2
          go_roundw
          case rel =>
            have := HS.out
            exact ⟨k + 1, by omega, by go_num, by rw [HS.out]; congr 1; omega, by omega, hb.alloc z _⟩
          case measure => simp [intOf]; omega
        · have hm : max n 0 = 0 := by omega
          go_wp2
          go_roundw
          case rel =>
            have := HS.out
            exact ⟨k + 1, by omega, by go_num, by rw [HS.out]; congr 1; omega, by omega, hb.alloc z _⟩
          case measure => simp [intOf]; omega
    · obtain rfl : k = l.length := by omega
      rw [List.take_length] at hn
      go_wp2
      go_ret
      exact ⟨by rw [List.take_length]; unfold totalOf; rw [if_pos hn]; rfl, hb⟩

set_option maxHeartbeats 600000 in
theorem runGood_any (A : Option Addr) (c B : Nat) (l : List RunP) (hf : Fits l) (hlen : l.length ≤ maxLen) (w : World) (hB : B ≤ w.heap.size) (h : Row w B A (flatR l)) :
    Calls Try.prog 15 #[.slice A l.length c] w fun e w' => e = .returned (.bool (goodB l)) ∧ Below w.heap.size w w' := by
  have hlen0 := hlen
  unfold maxLen at hlen
  have HF := Lib.hid hf
  clear hf
  go_enter Try.func15, Try.ntmps15
  go_wp2
  go_loopw [7] (fun i wr => ∃ k : Nat, k ≤ l.length ∧ i = .int .i64 k ∧ Hid (Neat (l.take k)) ∧ Below w.heap.size w wr) (fun i _ => l.length - (intOf i).toNat)
  case atStart => exact ⟨0, Nat.zero_le _, rfl, .nil, Below.refl _ _⟩
  case round =>
    obtain ⟨k, hk, rfl, HN, hb⟩ := hrel
    have z := hb.size
    by_cases hlt : k < l.length
    · obtain ⟨ad, rfl, hbl, c0, c1⟩ := run_cells (h.below (hb.mono hB)) hlt
      have hfk := HF.out l[k] (List.getElem_mem hlt)
      by_cases h1 : l[k].2 < 1
      · have HG2 := Lib.hid (goodB_no hlt (.inl h1))
        generalize l[k] = r at *
        obtain ⟨x, n⟩ := r
        dsimp only at *
        go_wp2
        go_quiet (fail)
        go_wp2
        go_ret
        exact ⟨by rw [HG2.out]; rfl, below_drewN (hb.alloc z _) _⟩
      · by_cases h0 : 0 < k
        · obtain ⟨j, rfl⟩ : ∃ j, k = j + 1 := ⟨k - 1, by omega⟩
          obtain ⟨ad', e', hbl', d0, d1⟩ := run_cells (h.below (hb.mono hB)) (k := j) (by omega)
          cases e'
          have HG : Hid ((l[j]'(by omega)).1 = l[j + 1].1 → goodB l = false) := fun e => goodB_no hlt (.inr ⟨by omega, e⟩)
          have HT : Hid ((l[j]'(by omega)).1 ≠ l[j + 1].1 → Neat (l.take (j + 1 + 1))) := fun e => neat_take HN.out hlt (by omega) (fun _ => e)
          have hwj := wrap_small (j : Int) (by omega) (by omega)
          have hjl : j < l.length := by omega
          generalize l[j] = q at *
          generalize l[j + 1] = r at *
          obtain ⟨x, n⟩ := r
          obtain ⟨y, m⟩ := q
          dsimp only at *
          have hd1 : decide (n < 1) = false := decide_eq_false h1
          have hbb : (ad.add (j * 2)).block < wr.heap.size := by rw [add_block]; omega
          by_cases hxy : y = x
          · have HG2 := Lib.hid (HG.out hxy)
            clear HG HT
            subst hxy
            go_wp2
            go_quiet (fail)
            go_wp2
            go_ret
            exact ⟨by rw [HG2.out]; rfl, below_drewN (hb.alloc z _) _⟩
          · have HT2 := Lib.hid (HT.out hxy)
            clear HG HT
            have ht : ((y : Int) == (x : Int)) = false := by simp; omega
            go_wp2
            go_quiet (fail)
            go_wp2
            go_roundw
            case rel => exact ⟨j + 1 + 1, by omega, by go_num, HT2, below_drewN (hb.alloc z _) _⟩
            case measure => simp [intOf]; omega
        · have HT2 := Lib.hid (neat_take HN.out hlt (by omega) (fun h => absurd h h0))
          generalize l[k] = r at *
          obtain ⟨x, n⟩ := r
          dsimp only at *
          have hd1 : decide (n < 1) = false := decide_eq_false h1
          obtain rfl : k = 0 := by omega
          have hz : ad.add (0 * 2) = ad := rfl
          rw [hz] at c0 c1
          clear hz
          go_wp2
          go_quiet (fail)
          go_wp2
          go_roundw
          case rel => exact ⟨0 + 1, by omega, by go_num, HT2, below_drewN (hb.alloc z _) _⟩
          case measure => simp [intOf]; omega
    · obtain rfl : k = l.length := by omega
      rw [List.take_length] at HN
      have HG := Lib.hid (goodB_neat HN.out)
      go_wp2_with (go_at_call 17; refine (runTotal_any A c B l HF.out hlen0 wr (by omega) (h.below (hb.mono hB))).mono ?_; rintro e w1 ⟨rfl, hb1⟩)
      go_ret
      exact ⟨by rw [HG.out]; rfl, hb.trans (hb1.mono z)⟩

set_option maxHeartbeats 1000000 in
theorem runWithin_any (A : Option Addr) (c B : Nat) (l : List RunP) (f t : Int) (hf : Fits l) (hlen : l.length ≤ maxLen) (w : World) (hB : B ≤ w.heap.size) (h : Row w B A (flatR l)) :
    Calls Try.prog 37 #[.slice A l.length c, .int .i64 f, .int .i64 t] w fun e w' => e = .returned (.bool (withinB l f t)) ∧ Below w.heap.size w w' := by
  have HF := Lib.hid hf
  clear hf
  have hle := totalOf_le l
  go_enter Try.func37, Try.ntmps37
  go_wp2_with (first
    | (go_at_call 15; refine (runGood_any A c B l HF.out hlen _ hB h).mono ?_; rintro e w1 ⟨rfl, hb1⟩; have z1 := hb1.size)
    | (go_at_call 17; refine (runTotal_any A c B l HF.out hlen _ (by omega) (h.below (hb1.mono hB))).mono ?_; rintro e w2 ⟨rfl, hb2⟩; have z2 := hb2.size))
  all_goals go_ret
  all_goals refine ⟨?_, by first | exact hb1 | exact hb1.trans (hb2.mono z1)⟩
  all_goals show Ending.returned (Value.bool _) = _
  all_goals first | (simp [withinB, *]; done) | (simp [withinB, *]; omega)
end Go.Proofs.Ythdflibljngjiaa

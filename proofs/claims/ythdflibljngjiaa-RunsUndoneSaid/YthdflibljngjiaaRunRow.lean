/-
  Lists of runs as rows of cells: layer 3.
-/
import Derived.Test.YthdflibljngjiaaRunMath
import Derived.Test.YthdflibljngjiaaRows
namespace Go.Proofs.Ythdflibljngjiaa
open Go.RowKit

def flatR (l : List RunP) : List Value := l.flatMap fun r => [.int .u64 (r.1 : Nat), .int .i64 r.2]
theorem flatR_nil : flatR [] = [] := rfl
theorem flatR_snoc (l : List RunP) (r : RunP) : flatR (l ++ [r]) = flatR l ++ [.int .u64 (r.1 : Nat), .int .i64 r.2] := by simp [flatR]
theorem flatR_len (l : List RunP) : (flatR l).length = l.length * 2 := by
  induction l with
  | nil => rfl
  | cons r l ih => simp only [flatR, List.flatMap_cons, List.length_append, List.length_cons] at *; rw [ih]; simp; omega
theorem flatR_get (l : List RunP) (k : Nat) (hk : k < l.length) : (flatR l)[k * 2]? = some (.int .u64 (l[k].1 : Nat)) ∧ (flatR l)[k * 2 + 1]? = some (.int .i64 l[k].2) := by
  induction l generalizing k with
  | nil => simp at hk
  | cons r l ih =>
    cases k with
    | zero => simp [flatR]
    | succ k =>
      have := ih k (by simpa using hk)
      simp only [flatR, List.flatMap_cons, List.getElem_cons_succ] at *
      rw [List.getElem?_append_right (by simp; omega), List.getElem?_append_right (by simp; omega)]
      simp only [List.length_cons, List.length_nil]
      rw [show (k + 1) * 2 - (0 + 1 + 1) = k * 2 by omega, show (k + 1) * 2 + 1 - (0 + 1 + 1) = k * 2 + 1 by omega]
      exact this
theorem run_field (ad : Addr) (k : Nat) : ad.add (k * 2 + 1) = ⟨(ad.add (k * 2)).block, (ad.add (k * 2)).off + 1, none⟩ := by
  unfold Addr.add
  by_cases hn : k = 0
  · subst hn; simp
  · have : k * 2 ≠ 0 := by omega
    simp [this]; omega
theorem run_cells {w : World} {B : Nat} {A : Option Addr} {l : List RunP} (h : Row w B A (flatR l)) {k : Nat} (hk : k < l.length) :
    ∃ ad, A = some ad ∧ ad.block < B ∧ w.cell? (ad.add (k * 2)) = some (.int .u64 (l[k].1 : Nat)) ∧ w.cell? ⟨(ad.add (k * 2)).block, (ad.add (k * 2)).off + 1, none⟩ = some (.int .i64 l[k].2) := by
  rcases h with h | ⟨ad, rfl, hb, hc⟩
  · have := congrArg List.length h
    rw [flatR_len] at this
    simp at this; omega
  · have c1 := hc _ _ (flatR_get l k hk).2
    rw [run_field _ _] at c1
    exact ⟨ad, rfl, hb, hc _ _ (flatR_get l k hk).1, c1⟩

theorem elt_run : Elt Try.prog 22 51 (.agg #[.int .u64 0, .int .i64 0]) 2 16 := ⟨Try.underlying22, by kernel_rfl, rfl, by decide⟩
theorem elt_label : Elt Try.prog 56 33 (.int .u64 0) 1 8 := ⟨Try.underlying56, by kernel_rfl, rfl, by decide⟩

/-- what a list of runs can hold: labels and counts in their kinds -/
def Fits (l : List RunP) : Prop := ∀ r ∈ l, r.1 < 18446744073709551616 ∧ -9223372036854775808 ≤ r.2 ∧ r.2 ≤ 9223372036854775807

theorem totalOf_le (l : List RunP) : totalOf l ≤ 4097 := by unfold totalOf; split <;> omega
theorem sumN_succ (l : List RunP) (k : Nat) (h : k < l.length) : sumN (l.take (k + 1)) = sumN (l.take k) + l[k].2.toNat := by
  rw [List.take_succ_eq_append_getElem h, sumN_snoc]

set_option maxHeartbeats 400000 in
theorem refTotal_any (A : Option Addr) (c B : Nat) (l : List RunP) (hf : Fits l) (hlen : l.length ≤ maxLen) (w : World) (_hB : B ≤ w.heap.size) (h : Row w B A (flatR l)) :
    Calls Try.prog 18 #[.slice A l.length c] w fun e w' => e = .returned (.int .i64 (totalOf l : Nat)) ∧ Below w.heap.size w w' := by
  unfold maxLen at hlen
  have HF := Lib.hid hf
  clear hf
  go_enter Try.func18, Try.ntmps18
  go_wp2
  go_loopw [3, 4] (fun n i wr => ∃ k : Nat, k ≤ l.length ∧ i = .int .i64 k ∧ n = .int .i64 (sumN (l.take k) : Nat) ∧ sumN (l.take k) ≤ 4096 ∧ Row wr B A (flatR l) ∧ Below w.heap.size w wr) (fun _ i _ => l.length - (intOf i).toNat)
  case atStart => exact ⟨0, Nat.zero_le _, rfl, rfl, by simp [sumN], h, Below.refl _ _⟩
  case round =>
    obtain ⟨k, hk, rfl, rfl, hn, h, hb⟩ := hrel
    by_cases hlt : k < l.length
    · obtain ⟨ad, rfl, hbl, c0, c1⟩ := run_cells h hlt
      have hfk := HF.out l[k] (List.getElem_mem hlt)
      have hs1 := sumN_succ l k hlt
      have hle := sumN_take_le l (k + 1)
      generalize l[k] = r at *
      obtain ⟨x, n⟩ := r
      dsimp only at *
      have HS := Lib.hid hs1
      clear hs1
      by_cases hbig : n > 4096 - (sumN (l.take k) : Int)
      · have HT : Hid (totalOf l = 4097) := by
          show totalOf l = 4097
          have := HS.out
          unfold totalOf; rw [if_neg (by omega)]
        clear hle
        go_wp2
        go_ret
        exact ⟨by rw [HT.out]; rfl, hb⟩
      · by_cases hpos : n > 0
        · go_wp2
          go_roundw
          case rel =>
            have := HS.out
            exact ⟨k + 1, by omega, by go_num, by rw [HS.out]; congr 1; omega, by omega, h, hb⟩
          case measure => simp [intOf]; omega
        · go_wp2
          go_roundw
          case rel =>
            have := HS.out
            exact ⟨k + 1, by omega, by go_num, by rw [HS.out]; congr 1; omega, by omega, h, hb⟩
          case measure => simp [intOf]; omega
    · obtain rfl : k = l.length := by omega
      rw [List.take_length] at hn
      go_wp2
      go_ret
      exact ⟨by rw [List.take_length]; unfold totalOf; rw [if_pos hn]; rfl, hb⟩
end Go.Proofs.Ythdflibljngjiaa

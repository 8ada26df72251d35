/-
  The landed gram's small functions: in, letter, capital, digit, counts, longer, product, wholeIf, Motion, Operator: layer 11.
-/
import Derived.Test.YtbfedakncdodcaaGrLand
import Derived.Test.YtbfedakncdodcaaUtfRange
import Derived.Test.YtbfedakncdodcaaKeyMath
namespace Go.Proofs.Ytbfedakncdodcaa
open Go.RowKit

theorem dec_ascii {b : UInt8} {t : List UInt8} (h : b.toNat < 128) : dec (b :: t) = (b.toNat, 1) := by
  unfold dec
  simp only [List.getD_cons_zero]
  rw [if_pos (by omega)]

set_option maxRecDepth 100000 in
set_option maxHeartbeats 1000000 in
theorem gramIn_any (k : Int) (S : List UInt8) (_hS : S.length ≤ 1000) (hA : ∀ b ∈ S, b.toNat < 128) (w : World) : Calls Try.prog 15 #[.int .i32 k, .string ⟨S.toArray⟩] w fun e w' => e = .returned (.bool (inS k S)) ∧ Below w.heap.size w w' := by
  have HA := Lib.hid hA
  clear hA
  go_enter Try.func15, Try.ntmps15
  go_wp2_with ((with_reducible refine at_range 9 _ ?_); refine wpList_rangeStr rfl 9 _ rfl Try.underlying9 S rfl ?_; intro w1 g hg hit hb1)
  go_frame
  go_loopw [4] (fun v wr => ∃ n : Nat, v = .bool false ∧ n ≤ S.length ∧ inS k (S.take n) = false ∧ Iter wr g S n ∧ Below w.heap.size w wr) (fun _ wr => S.length - wr.iterPos g)
  case atStart => exact ⟨0, rfl, Nat.zero_le _, rfl, hit, hb1⟩
  case round =>
    clear hit hb1
    obtain ⟨n, rfl, hn, h0, hit, hb⟩ := hrel
    have H0 := Lib.hid h0
    clear h0
    have hip : wr.iterPos g = n := by unfold World.iterPos; rw [hit]
    have HIP := Lib.hid hip
    clear hip
    have z := hb.size
    by_cases hlt : n < S.length
    · have HD : Hid (dec (S.drop n) = (S[n].toNat, 1)) := by
        show _ = _
        rw [List.drop_eq_getElem_cons hlt]
        exact dec_ascii (HA.out _ (List.getElem_mem hlt))
      cases hk : ((S[n].toNat : Int) == k) with
      | true =>
        have HT := Lib.hid (inS_at hlt hk)
        go_wp2_with ((with_reducible refine at_next _ true ?_); refine wpList_nextStr rfl _ rfl g rfl S n hit hlt ?_; rw [HD.out]; intro w2 hit2 hg2; have b2 := hb.grown hg2 z (fun k hk => by injection hk with hk; omega))
        go_ret
        exact ⟨by rw [HT.out]; rfl, b2⟩
      | false =>
        have HT := Lib.hid (inS_take hlt H0.out hk)
        go_wp2_with ((with_reducible refine at_next _ true ?_); refine wpList_nextStr rfl _ rfl g rfl S n hit hlt ?_; rw [HD.out]; intro w2 hit2 hg2; have b2 := hb.grown hg2 z (fun k hk => by injection hk with hk; omega))
        have hip2 : w2.iterPos g = n + 1 := by unfold World.iterPos; rw [hit2]
        rw [HIP.out, hip2]
        exact ⟨⟨n + 1, rfl, by omega, HT.out, hit2, b2⟩, by omega⟩
    · have HT : Hid (inS k S = false) := by
        show _ = _
        have := H0.out
        rwa [List.take_of_length_le (by omega)] at this
      go_wp2_with ((with_reducible refine at_next _ true ?_); refine wpList_nextEnd rfl _ rfl g rfl S n hit hlt ?_)
      go_ret
      exact ⟨by rw [HT.out]; rfl, hb⟩

theorem gramLetter_any (k : Int) (w : World) : Calls Try.prog 24 #[.int .i32 k] w fun e w' => e = .returned (.bool (lettG k)) ∧ w' = w := by
  go_enter Try.func24, Try.ntmps24
  by_cases h1 : 97 ≤ k
  · by_cases h2 : k ≤ 122
    · go_wp2
      go_ret
      exact ⟨by unfold lettG; simp [h1, h2], rfl⟩
    · go_wp2
      go_ret
      exact ⟨by unfold lettG; simp [h1, h2], rfl⟩
  · go_wp2
    go_ret
    exact ⟨by unfold lettG; simp; omega, rfl⟩
theorem gramCapital_any (k : Int) (w : World) : Calls Try.prog 25 #[.int .i32 k] w fun e w' => e = .returned (.bool (capG k)) ∧ w' = w := by
  go_enter Try.func25, Try.ntmps25
  by_cases h1 : 65 ≤ k
  · by_cases h2 : k ≤ 90
    · go_wp2
      go_ret
      exact ⟨by unfold capG; simp [h1, h2], rfl⟩
    · go_wp2
      go_ret
      exact ⟨by unfold capG; simp [h1, h2], rfl⟩
  · go_wp2
    go_ret
    exact ⟨by unfold capG; simp; omega, rfl⟩
theorem gramDigit_any (k : Int) (w : World) : Calls Try.prog 26 #[.int .i32 k] w fun e w' => e = .returned (.bool (digG k)) ∧ w' = w := by
  go_enter Try.func26, Try.ntmps26
  by_cases h1 : 48 ≤ k
  · by_cases h2 : k ≤ 57
    · go_wp2
      go_ret
      exact ⟨by unfold digG; simp [h1, h2], rfl⟩
    · go_wp2
      go_ret
      exact ⟨by unfold digG; simp [h1, h2], rfl⟩
  · go_wp2
    go_ret
    exact ⟨by unfold digG; simp; omega, rfl⟩
theorem gramCounts_any (c k : Int) (w : World) : Calls Try.prog 27 #[.int .i64 c, .int .i32 k] w fun e w' => e = .returned (.bool (countsG c k)) ∧ w' = w := by
  go_enter Try.func27, Try.ntmps27
  cases hd : digG k with
  | false =>
    go_wp2_with (go_at_call 26; refine (gramDigit_any _ _).mono ?_; rw [hd]; rintro e w1 ⟨rfl, hw⟩; subst w1)
    go_ret
    exact ⟨by unfold countsG; simp [hd], rfl⟩
  | true =>
    by_cases h1 : k = 48
    · subst h1
      by_cases h2 : c = 0
      · subst h2
        go_wp2_with (go_at_call 26; refine (gramDigit_any _ _).mono ?_; rw [hd]; rintro e w1 ⟨rfl, hw⟩; subst w1)
        go_ret
        exact ⟨by unfold countsG; simp [hd], rfl⟩
      · go_wp2_with (go_at_call 26; refine (gramDigit_any _ _).mono ?_; rw [hd]; rintro e w1 ⟨rfl, hw⟩; subst w1)
        go_ret
        exact ⟨by unfold countsG; simp [hd, h2], rfl⟩
    · go_wp2_with (go_at_call 26; refine (gramDigit_any _ _).mono ?_; rw [hd]; rintro e w1 ⟨rfl, hw⟩; subst w1)
      go_ret
      exact ⟨by unfold countsG; simp [hd, h1], rfl⟩
theorem gramLonger_any (c k : Int) (hc : 0 ≤ c ∧ c ≤ 999) (hk : digit0 k) (w : World) : Calls Try.prog 28 #[.int .i64 c, .int .i32 k] w fun e w' => e = .returned (.int .i64 (longerG c k)) ∧ w' = w := by
  unfold digit0 at hk
  have e1 : wrap32 (k - 48) = k - 48 := by unfold wrap32; omega
  go_enter Try.func28, Try.ntmps28
  go_wp2
  all_goals
    go_ret
    refine ⟨congrArg (fun z => Ending.returned (.int .i64 z)) ?_, rfl⟩
    unfold longerG
    omega
theorem gramProduct_any (a b : Int) (ha : 0 ≤ a ∧ a ≤ 999) (hb : 0 ≤ b ∧ b ≤ 999) (w : World) : Calls Try.prog 23 #[.int .i64 a, .int .i64 b] w fun e w' => e = .returned (.int .i64 (timesG a b)) ∧ w' = w := by
  go_enter Try.func23, Try.ntmps23
  by_cases h1 : a = 0
  · subst h1
    go_wp2
    go_ret
    refine ⟨congrArg (fun z => Ending.returned (.int .i64 z)) ?_, rfl⟩
    unfold timesG
    rw [if_pos (.inl rfl)]
    omega
  · by_cases h2 : b = 0
    · subst h2
      go_wp2
      go_ret
      refine ⟨congrArg (fun z => Ending.returned (.int .i64 z)) ?_, rfl⟩
      unfold timesG
      rw [if_pos (.inr rfl)]
      omega
    · have hab : 0 ≤ a * b ∧ a * b ≤ 999 * 999 := ⟨Int.mul_nonneg ha.1 hb.1, Int.mul_le_mul ha.2 hb.2 hb.1 (by decide)⟩
      have q1 : (a == 0) = false := by simpa using h1
      have q2 : (b == 0) = false := by simpa using h2
      have e : timesG a b = min (a * b) 999 := by
        unfold timesG
        rw [if_neg (by omega)]
      generalize hm : a * b = m at *
      rw [e]
      clear e
      go_wp2
      all_goals
        go_ret
        refine ⟨congrArg (fun z => Ending.returned (.int .i64 z)) ?_, rfl⟩
        omega
theorem gramWholeIf_any (b : Bool) (w : World) : Calls Try.prog 37 #[.bool b] w fun e w' => e = .returned (.int .i64 (wholeL b : Nat)) ∧ w' = w := by
  go_enter Try.func37, Try.ntmps37
  cases b with
  | false => go_wp2; go_ret; exact ⟨rfl, rfl⟩
  | true => go_wp2; go_ret; exact ⟨rfl, rfl⟩
end Go.Proofs.Ytbfedakncdodcaa

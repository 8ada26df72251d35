/-
  The contract of the document's own answer, layer 2: number.
-/
import Derived.Test.YtnkhlallnblfmaaGlyOne
namespace Go.Proofs.Ytnkhlallnblfmaa
open Go.RowKit

theorem numStep_le {n : Nat} {b : UInt8} {k : Nat} (h : n ≤ k) : numStep n b ≤ k * 64 + 63 := by
  unfold numStep; have : b.toNat % 64 < 64 := Nat.mod_lt _ (by decide); omega
theorem headOf_le (n : Nat) (a : UInt8) : headOf n a ≤ 255 := by
  have := a.toNat_lt
  unfold headOf; split <;> (try split) <;> (try split) <;> omega

/-- the number of the first k of up to four bytes -/
def numTo (a : UInt8) (t : List UInt8) (k : Nat) : Nat := (t.take k).foldl numStep (headOf (t.length + 1) a)
theorem numTo_succ (a : UInt8) (t : List UInt8) (k : Nat) (h : k < t.length) : numTo a t (k + 1) = numStep (numTo a t k) t[k] := by
  unfold numTo
  rw [List.take_succ_eq_append_getElem h, List.foldl_append]; rfl
theorem numTo_le (a : UInt8) (t : List UInt8) (k : Nat) (hk : k ≤ t.length) (h3 : t.length ≤ 3) : numTo a t k ≤ 67108863 := by
  have h0 : numTo a t 0 ≤ 255 := headOf_le _ _
  match k, hk with
  | 0, _ => omega
  | 1, hk => rw [numTo_succ a t 0 (by omega)]; have := numStep_le (b := t[0]'(by omega)) h0; omega
  | 2, hk =>
    rw [numTo_succ a t 1 (by omega), numTo_succ a t 0 (by omega)]
    have h1 := numStep_le (b := t[0]'(by omega)) h0
    have := numStep_le (b := t[1]'(by omega)) h1; omega
  | 3, hk =>
    rw [numTo_succ a t 2 (by omega), numTo_succ a t 1 (by omega), numTo_succ a t 0 (by omega)]
    have h1 := numStep_le (b := t[0]'(by omega)) h0
    have h2 := numStep_le (b := t[1]'(by omega)) h1
    have := numStep_le (b := t[2]'(by omega)) h2; omega
  | k + 4, hk => omega
theorem num_numTo (a : UInt8) (t : List UInt8) : num (a :: t) = numTo a t t.length := by unfold num numTo; rw [List.take_length]; rfl

theorem byte_at (S : List UInt8) (k : Nat) (h : k < S.length) : ({ data := S.toArray } : ByteArray)[k]'(by simpa [ByteArray.size] using h) = S[k] := rfl

set_option maxHeartbeats 2000000 in
theorem refNumber_any (a : UInt8) (t : List UInt8) (h3 : t.length ≤ 3) (w : World) :
    Calls Try.prog 44 #[.string ⟨(a :: t).toArray⟩] w fun e w' => e = .returned (.int .i64 (num (a :: t) : Nat)) ∧ w = w' := by
  have HF := Lib.hid (num_numTo a t)
  have ha := a.toNat_lt
  have hg0 := byte_at (a :: t) 0 (by simp)
  have hS : Hid (∀ k, k < t.length → ∃ h, ({ data := (a :: t).toArray } : ByteArray)[k + 1]'h = t.getD k 0) := fun k hk => ⟨by simp [ByteArray.size]; exact hk, by
    have := byte_at (a :: t) (k + 1) (by simp; exact hk)
    rw [this]; simp [List.getD, hk]⟩
  have hstart : numTo a t 0 = headOf (t.length + 1) a := rfl
  have hn : t.length = 0 ∨ t.length = 1 ∨ t.length = 2 ∨ t.length = 3 := by omega
  have HT := Lib.hid h3
  clear h3
  rcases hn with hn | hn | hn | hn
  all_goals
    have HN := Lib.hid hn
    rw [hn] at hstart
    simp only [headOf, Nat.reduceAdd, Nat.reduceEqDiff, if_true, if_false, Nat.succ_ne_self] at hstart
    have HS := Lib.hid hstart
    clear hstart
    go_enter Try.func44, Try.ntmps44
    go_wp2
    go_loop [3, 4] (fun v i => ∃ k : Nat, k ≤ t.length ∧ i = .int .i64 (k + 1 : Nat) ∧ v = .int .i64 (numTo a t k : Nat)) (fun _ i => 4 - (intOf i).toNat)
    case atStart => exact ⟨0, Nat.zero_le _, rfl, by rw [HS.out]; try simp⟩
    case round =>
      obtain ⟨k, hk, rfl, rfl⟩ := hrel
      have hle := numTo_le a t k hk HT.out
      by_cases hlt : k < t.length
      · obtain ⟨hh, hg⟩ := hS.out k hlt
        have HV := Lib.hid (numTo_succ a t k hlt)
        rw [show t.getD k 0 = t[k] by simp [List.getD, hlt]] at hg
        have hb := t[k].toNat_lt
        generalize t[k] = b at *
        generalize numTo a t k = v at *
        rw [hn] at hlt
        go_wp2
        all_goals
          go_round
          case rel => exact ⟨k + 1, by omega, by go_num, by rw [HV.out]; unfold numStep; congr 1; try (simp; try omega)⟩
          case measure => first | (simp [intOf]; done) | (simp [intOf]; omega)
      · have HE : Hid (numTo a t k = num (a :: t)) := by
          show numTo a t k = _
          rw [HF.out, show k = t.length by omega]
        rw [hn] at hlt
        go_wp2
        go_ret
        exact ⟨by rw [← HE.out]; rfl, rfl⟩
end Go.Proofs.Ytnkhlallnblfmaa

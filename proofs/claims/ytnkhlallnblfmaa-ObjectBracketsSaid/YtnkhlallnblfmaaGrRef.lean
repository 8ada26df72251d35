/-
  The document's In, Motion, Operator: layer 11.
-/
import Derived.Test.YtnkhlallnblfmaaGrCount
import Derived.Test.YtnkhlallnblfmaaGlyNumber
namespace Go.Proofs.Ytnkhlallnblfmaa
open Go.RowKit

/-- is a number one of a text's bytes? -/
def inS (k : Int) (S : List UInt8) : Bool := S.any fun b => (b.toNat : Int) == k
theorem inS_take {k : Int} {S : List UInt8} {i : Nat} (h : i < S.length) (h0 : inS k (S.take i) = false) (hk : ((S[i].toNat : Int) == k) = false) : inS k (S.take (i + 1)) = false := by
  rw [List.take_succ_eq_append_getElem h]
  unfold inS at h0 ⊢
  rw [List.any_append, h0]
  simp only [List.any_cons, List.any_nil, Bool.or_false, Bool.false_or]
  exact hk
theorem inS_at {k : Int} {S : List UInt8} {i : Nat} (h : i < S.length) (hk : ((S[i].toNat : Int) == k) = true) : inS k S = true := List.any_eq_true.2 ⟨S[i], List.getElem_mem h, hk⟩

set_option maxHeartbeats 1000000 in
theorem refGIn_any (k : Int) (S : List UInt8) (hS : S.length ≤ 1000000) (w : World) : Calls Try.prog 18 #[.int .i64 k, .string ⟨S.toArray⟩] w fun e w' => e = .returned (.bool (inS k S)) ∧ Below w.heap.size w w' := by
  go_enter Try.func18, Try.ntmps18
  go_wp2_with fail
  go_loopw [5] (fun i wr => ∃ n : Nat, n ≤ S.length ∧ i = .int .i64 n ∧ inS k (S.take n) = false ∧ Below w.heap.size w wr) (fun i _ => S.length - (intOf i).toNat)
  case atStart => exact ⟨0, Nat.zero_le _, rfl, rfl, Below.refl _ _⟩
  case round =>
    obtain ⟨n, hn, rfl, h0, hb⟩ := hrel
    have H0 := Lib.hid h0
    clear h0
    by_cases hlt : n < S.length
    · have hlt' : (n : Int) < (S.length : Int) := by omega
      have hg := byte_at S n hlt
      cases hk : ((S[n].toNat : Int) == k) with
      | true =>
        have HT := Lib.hid (inS_at hlt hk)
        generalize S[n] = b at *
        have hw : wrap64 (b.toNat : Int) = (b.toNat : Int) := by have := b.toNat_lt; unfold wrap64; omega
        rw [← hw] at hk
        clear hw
        go_wp2_with fail
        go_ret
        exact ⟨by rw [HT.out]; rfl, hb⟩
      | false =>
        have HT := Lib.hid (inS_take hlt H0.out hk)
        generalize S[n] = b at *
        have hw : wrap64 (b.toNat : Int) = (b.toNat : Int) := by have := b.toNat_lt; unfold wrap64; omega
        rw [← hw] at hk
        clear hw
        go_wp2_with fail
        go_roundw
        case rel => exact ⟨n + 1, by omega, by go_num, HT.out, hb⟩
        case measure => simp [intOf]; omega
    · have hlt' : ¬ (n : Int) < (S.length : Int) := by omega
      have HT : Hid (inS k S = false) := by
        show _ = _
        have := H0.out
        rwa [List.take_of_length_le (by omega)] at this
      go_wp2_with fail
      go_ret
      exact ⟨by rw [HT.out]; rfl, hb⟩

theorem inS_list (k : Int) (S : List UInt8) : inS k S = inG k (S.map fun b => (b.toNat : Int)) := by
  unfold inS inG
  rw [Bool.eq_iff_iff, List.any_eq_true, List.contains_iff_mem, List.mem_map]
  constructor
  · rintro ⟨b, hb, e⟩; exact ⟨b, hb, by simpa using e⟩
  · rintro ⟨b, hb, e⟩; exact ⟨b, hb, by simpa using e⟩
theorem motionG_is (k : Int) : inS k [104, 108, 106, 107, 48, 94, 119, 98, 101, 71, 123, 125, 103, 102, 70, 116, 84, 36] = motionG k := inS_list _ _
theorem operG_is (k : Int) : inS k [100, 121, 99, 62, 60] = operG k := inS_list _ _
theorem refGIn_motion (k : Int) (w : World) : Calls Try.prog 18 #[.int .i64 k, .string ⟨#[104, 108, 106, 107, 48, 94, 119, 98, 101, 71, 123, 125, 103, 102, 70, 116, 84, 36]⟩] w fun e w' => e = .returned (.bool (motionG k)) ∧ Below w.heap.size w w' := by
  have h := refGIn_any k [104, 108, 106, 107, 48, 94, 119, 98, 101, 71, 123, 125, 103, 102, 70, 116, 84, 36] (by decide) w
  rw [motionG_is] at h
  exact h
theorem refGIn_oper (k : Int) (w : World) : Calls Try.prog 18 #[.int .i64 k, .string ⟨#[100, 121, 99, 62, 60]⟩] w fun e w' => e = .returned (.bool (operG k)) ∧ Below w.heap.size w w' := by
  have h := refGIn_any k [100, 121, 99, 62, 60] (by decide) w
  rw [operG_is] at h
  exact h
end Go.Proofs.Ytnkhlallnblfmaa

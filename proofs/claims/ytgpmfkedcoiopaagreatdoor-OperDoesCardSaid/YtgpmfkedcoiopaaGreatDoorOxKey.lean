/-
  The landed May, HasPrefix, Encode, as texts of this layer call them: layer 14.
-/
import Derived.Test.YtgpmfkedcoiopaaGreatDoorKeyRef
import Derived.Test.YtgpmfkedcoiopaaGreatDoorM02v
namespace Go.Proofs.YtgpmfkedcoiopaaGreatDoor
open Go.RowKit

set_option maxRecDepth 4000000 in
set_option maxHeartbeats 1000000 in
theorem keyValid_any (r : Int) (hr : 32 ≤ r ∧ r ≤ 2147483647) (w : World) : Calls Tryz.prog 116 #[.int .i32 r] w fun e w' => e = .returned (.bool (decide (r ≤ 1114111 ∧ (r < 55296 ∨ 57343 < r)))) ∧ w = w' := by
  obtain ⟨d, hd⟩ : ∃ d, decide (r ≤ 1114111 ∧ (r < 55296 ∨ 57343 < r)) = d := ⟨_, rfl⟩
  rw [hd]
  have HD := Lib.hid hd
  clear hd
  by_cases h1 : r < 55296
  · have HK : Hid (d = true) := by show d = _; rw [← HD.out]; exact decide_eq_true ⟨by omega, .inl h1⟩
    go_enter Tryz.func116, Tryz.ntmps116
    go_wp2_with fail
    go_ret
    exact ⟨ret_bool (by rw [HK.out]), rfl⟩
  · by_cases h2 : 57343 < r
    · by_cases h3 : r ≤ 1114111
      · have HK : Hid (d = true) := by show d = _; rw [← HD.out]; exact decide_eq_true ⟨h3, .inr h2⟩
        go_enter Tryz.func116, Tryz.ntmps116
        go_wp2_with fail
        go_ret
        exact ⟨ret_bool (by rw [HK.out]), rfl⟩
      · have HK : Hid (d = false) := by show d = _; rw [← HD.out]; exact decide_eq_false (fun h => h3 h.1)
        go_enter Tryz.func116, Tryz.ntmps116
        go_wp2_with fail
        go_ret
        exact ⟨ret_bool (by rw [HK.out]), rfl⟩
    · have HK : Hid (d = false) := by show d = _; rw [← HD.out]; exact decide_eq_false (by omega)
      go_enter Tryz.func116, Tryz.ntmps116
      go_wp2_with fail
      go_ret
      exact ⟨ret_bool (by rw [HK.out]), rfl⟩
set_option maxHeartbeats 1000000 in
theorem keyMay_any (r : Int) (hr : -2147483648 ≤ r ∧ r ≤ 2147483647) (w : World) : Calls Tryz.prog 62 #[.int .i32 r] w fun e w' => e = .returned (.bool (decide (keyK r))) ∧ w = w' := by
  by_cases h32 : r < 32
  · obtain ⟨d, hd⟩ : ∃ d, decide (keyK r) = d := ⟨_, rfl⟩
    have HD : Hid (d = (decide (1 ≤ r) && decide (r ≤ 27))) := by
      show _ = _
      rw [← hd, Bool.eq_iff_iff, Bool.and_eq_true, decide_eq_true_iff, decide_eq_true_iff, decide_eq_true_iff]
      unfold keyK; omega
    rw [hd]
    clear hd
    by_cases h1 : 1 ≤ r
    · by_cases h27 : r ≤ 27
      · have HF : Hid (d = true) := by show d = true; rw [HD.out]; simp [h1, h27]
        go_enter Tryz.func62, Tryz.ntmps62
        go_wp2_with fail
        go_ret
        exact ⟨ret_bool (by rw [HF.out]), rfl⟩
      · have HF : Hid (d = false) := by show d = false; rw [HD.out]; simp [h27]
        go_enter Tryz.func62, Tryz.ntmps62
        go_wp2_with fail
        go_ret
        exact ⟨ret_bool (by rw [HF.out]), rfl⟩
    · have HF : Hid (d = false) := by show d = false; rw [HD.out]; simp [h1]
      go_enter Tryz.func62, Tryz.ntmps62
      go_wp2_with fail
      go_ret
      exact ⟨ret_bool (by rw [HF.out]), rfl⟩
  · by_cases h127 : r = 127
    · subst h127
      have HK := Lib.hid (show decide (keyK 127) = false by decide)
      go_enter Tryz.func62, Tryz.ntmps62
      go_wp2_with fail
      go_ret
      exact ⟨ret_bool (by rw [HK.out]), rfl⟩
    · have e4 : (r != 127) = true := by simpa using h127
      have HK : Hid (decide (keyK r) = decide (r ≤ 1114111 ∧ (r < 55296 ∨ 57343 < r))) := by
        show _ = _
        rw [Bool.eq_iff_iff, decide_eq_true_iff, decide_eq_true_iff]
        unfold keyK; omega
      clear h127
      generalize hgd : decide (r ≤ 1114111 ∧ (r < 55296 ∨ 57343 < r)) = d at HK
      have HC : Hid (∀ wz, Calls Tryz.prog 116 #[.int .i32 r] wz fun e w' => e = .returned (.bool d) ∧ wz = w') := fun wz => by
        have := keyValid_any r (by omega) wz
        rwa [hgd] at this
      clear hgd
      go_enter Tryz.func62, Tryz.ntmps62
      go_wp2_with (go_at_call 116; refine (HC.out _).mono ?_; rintro e w1 ⟨rfl, hw⟩; subst w1)
      go_ret
      exact ⟨ret_bool (by rw [HK.out]), rfl⟩
set_option maxHeartbeats 1000000 in
theorem keyHas2_any (S T : List UInt8) (_hS : S.length ≤ 1000000) (_hT : T.length ≤ 1000000) (w : World) : Calls Tryz.prog 166 #[.string ⟨S.toArray⟩, .string ⟨T.toArray⟩] w fun e w' => e = .returned (.bool (T.isPrefixOf S)) ∧ w = w' := by
  by_cases hl : T.length ≤ S.length
  · have hl' : (T.length : Int) ≤ (S.length : Int) := by omega
    have HE : Hid (T.isPrefixOf S = decide (S.take T.length = T)) := by
      show _ = _
      rw [Bool.eq_iff_iff, List.isPrefixOf_iff_prefix, decide_eq_true_iff, List.prefix_iff_eq_take]
      exact ⟨fun h => h.symm, fun h => h.symm⟩
    go_enter Tryz.func166, Tryz.ntmps166
    go_wp2_with fail
    go_ret
    refine ⟨?_, rfl⟩
    rw [HE.out, text_front]
    simp only [ByteArray.toList_eq]
    rw [show ((List.take T.length S).toArray.toList == T) = decide (List.take T.length S = T) by rw [Bool.eq_iff_iff, beq_iff_eq, decide_eq_true_iff]]
    rfl
  · have HE : Hid (T.isPrefixOf S = false) := by
      show _ = _
      rw [Bool.eq_false_iff]
      intro h
      exact hl (List.IsPrefix.length_le (List.isPrefixOf_iff_prefix.1 h))
    have hl' : ¬ (T.length : Int) ≤ (S.length : Int) := by omega
    clear hl
    go_enter Tryz.func166, Tryz.ntmps166
    go_wp2_with fail
    go_ret
    exact ⟨by rw [HE.out]; first | rfl | (simp; omega), rfl⟩
theorem keyHas_any (S T : List UInt8) (hS : S.length ≤ 1000000) (hT : T.length ≤ 1000000) (w : World) : Calls Tryz.prog 121 #[.string ⟨S.toArray⟩, .string ⟨T.toArray⟩] w fun e w' => e = .returned (.bool (T.isPrefixOf S)) ∧ w = w' := by
  go_enter Tryz.func121, Tryz.ntmps121
  go_wp2_with (go_at_call 166; refine (keyHas2_any S T hS hT _).mono ?_; rintro e w1 ⟨rfl, hw⟩; subst w1)
  go_ret
  exact ⟨rfl, rfl⟩
theorem keyEncode_any (A : Option Addr) (c B : Nat) (zs : List Int) (w : World) (h : Row w B A (zs.map runz)) :
    Calls Tryz.prog 66 #[.slice A zs.length c] w fun e w' => e = .returned (.string ⟨(encAll zs).toArray⟩) ∧ w = w' := by
  have hcv := text_of_runes (P := Tryz.prog) (c := c) 110 9 21 Tryz.underlying110 Tryz.underlying21 Tryz.underlying9 h
  go_enter Tryz.func66, Tryz.ntmps66
  go_wp2
  go_ret
  exact ⟨rfl, rfl⟩
theorem keyEncode_one (x : Int) (w : World) : Calls Tryz.prog 66 #[.slice (some ⟨w.heap.size, 0, none⟩) 1 1] (w.alloc (.cells #[.int .i32 x] 21)) fun e w' => ∃ X : List UInt8, e = .returned (.string ⟨X.toArray⟩) ∧ Hid (X = encB x) ∧ X.length ≤ 4 ∧ Below w.heap.size w w' := by
  have h := keyEncode_any (some ⟨w.heap.size, 0, none⟩) 1 _ [x] (w.alloc (.cells #[.int .i32 x] 21)) (row_newL w 21 [.int .i32 x])
  refine h.mono ?_
  rintro e w' ⟨rfl, rfl⟩
  exact ⟨encB x, by simp [encAll], rfl, (encB_len x).2, (Below.refl _ w).alloc (Nat.le_refl _) _⟩
theorem encB_key {k : Int} (h : keyK k) (h32 : ¬ k < 32) : encB k = enc k.toNat := by
  unfold keyK at h
  have hm : mayB k = true := by
    unfold mayB
    simp
    omega
  unfold encB
  rw [if_pos hm]
end Go.Proofs.YtgpmfkedcoiopaaGreatDoor

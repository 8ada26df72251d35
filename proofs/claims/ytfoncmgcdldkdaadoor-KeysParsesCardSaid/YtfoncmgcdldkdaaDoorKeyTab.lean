/-
  The landed table of named keys; May, HasPrefix, written, meant of the landed package keys.
-/
import Derived.Test.YtfoncmgcdldkdaaDoorFlat
import Derived.Test.YtfoncmgcdldkdaaDoorKeyParse
import Derived.Test.YtfoncmgcdldkdaaDoorUtfText
namespace Go.Proofs.YtfoncmgcdldkdaaDoor
open Go.RowKit

/-- what the table's variable holds -/
def namedC : Array Value := #[.int .i32 27, .string ⟨#[60, 69, 115, 99, 62]⟩, .int .i32 13, .string ⟨#[60, 67, 82, 62]⟩, .int .i32 8, .string ⟨#[60, 66, 83, 62]⟩, .int .i32 9, .string ⟨#[60, 84, 97, 98, 62]⟩, .int .i32 60, .string ⟨#[60, 108, 116, 62]⟩]
def NamedW (w : World) : Prop := GlobIs w 0 namedC
theorem named_global : Tryd.prog.globalNamed "bureau/keys.named" = some 0 := by kernel_rfl
theorem named_type : (Tryd.prog.globals[0]?).map (·.type) = some 56 := by kernel_rfl
theorem named_flat : flatB Tryd.prog 8 56 = true := by kernel_rfl
theorem named_read : DataW.trod (fun _ => ()) Tryd.prog default 0 (fun _ => true) false 8 56 namedC.toList = some (Rows.laid_bureau_keys_named, []) := by kernel_rfl
theorem named_laid {W : World} (h : laidMetH Tryd.prog [("bureau/keys.named", Rows.laid_bureau_keys_named)] W) : NamedW W :=
  glob_of_head (rest := []) named_global named_type named_flat named_read h

/-- a world for the witness: the table holds what its initialiser lays -/
noncomputable def keyWorld (os : Os) : World :=
  { World.holding Tryd.prog os ⟨#[], #[], []⟩ with heap := (World.holding Tryd.prog os ⟨#[], #[], []⟩).heap.modify 0 fun
      | .cells _ t frozen => .cells namedC t frozen
      | o => o }

set_option maxRecDepth 4000000 in
set_option maxHeartbeats 1000000 in
theorem keyValid_any (r : Int) (hr : 32 ≤ r ∧ r ≤ 2147483647) (w : World) : Calls Tryd.prog 16 #[.int .i32 r] w fun e w' => e = .returned (.bool (decide (r ≤ 1114111 ∧ (r < 55296 ∨ 57343 < r)))) ∧ w = w' := by
  obtain ⟨d, hd⟩ : ∃ d, decide (r ≤ 1114111 ∧ (r < 55296 ∨ 57343 < r)) = d := ⟨_, rfl⟩
  rw [hd]
  have HD := Lib.hid hd
  clear hd
  by_cases h1 : r < 55296
  · have HK : Hid (d = true) := by show d = _; rw [← HD.out]; exact decide_eq_true ⟨by omega, .inl h1⟩
    go_enter Tryd.func16, Tryd.ntmps16
    go_wp2_with fail
    go_ret
    exact ⟨ret_bool (by rw [HK.out]), rfl⟩
  · by_cases h2 : 57343 < r
    · by_cases h3 : r ≤ 1114111
      · have HK : Hid (d = true) := by show d = _; rw [← HD.out]; exact decide_eq_true ⟨h3, .inr h2⟩
        go_enter Tryd.func16, Tryd.ntmps16
        go_wp2_with fail
        go_ret
        exact ⟨ret_bool (by rw [HK.out]), rfl⟩
      · have HK : Hid (d = false) := by show d = _; rw [← HD.out]; exact decide_eq_false (fun h => h3 h.1)
        go_enter Tryd.func16, Tryd.ntmps16
        go_wp2_with fail
        go_ret
        exact ⟨ret_bool (by rw [HK.out]), rfl⟩
    · have HK : Hid (d = false) := by show d = _; rw [← HD.out]; exact decide_eq_false (by omega)
      go_enter Tryd.func16, Tryd.ntmps16
      go_wp2_with fail
      go_ret
      exact ⟨ret_bool (by rw [HK.out]), rfl⟩
set_option maxHeartbeats 1000000 in
theorem keyMay_any (r : Int) (hr : -2147483648 ≤ r ∧ r ≤ 2147483647) (w : World) : Calls Tryd.prog 8 #[.int .i32 r] w fun e w' => e = .returned (.bool (decide (keyK r))) ∧ w = w' := by
  by_cases h32 : r < 32
  · obtain ⟨d, hd⟩ : ∃ d, decide (keyK r) = d := ⟨_, rfl⟩
    have HD : Hid (d = (decide (1 ≤ r) && decide (r ≤ 27))) := by
      show _ = _
      rw [← hd, Bool.eq_iff_iff, Bool.and_eq_true, decide_eq_true_iff, decide_eq_true_iff, decide_eq_true_iff]
      unfold keyK; omega
    rw [hd]
    clear hd
    by_cases h1 : 1 ≤ r
    · by_cases h27 : r ≤ 27
      · have HF : Hid (d = true) := by show d = true; rw [HD.out]; simp [h1, h27]
        go_enter Tryd.func8, Tryd.ntmps8
        go_wp2_with fail
        go_ret
        exact ⟨ret_bool (by rw [HF.out]), rfl⟩
      · have HF : Hid (d = false) := by show d = false; rw [HD.out]; simp [h27]
        go_enter Tryd.func8, Tryd.ntmps8
        go_wp2_with fail
        go_ret
        exact ⟨ret_bool (by rw [HF.out]), rfl⟩
    · have HF : Hid (d = false) := by show d = false; rw [HD.out]; simp [h1]
      go_enter Tryd.func8, Tryd.ntmps8
      go_wp2_with fail
      go_ret
      exact ⟨ret_bool (by rw [HF.out]), rfl⟩
  · by_cases h127 : r = 127
    · subst h127
      have HK := Lib.hid (show decide (keyK 127) = false by decide)
      go_enter Tryd.func8, Tryd.ntmps8
      go_wp2_with fail
      go_ret
      exact ⟨ret_bool (by rw [HK.out]), rfl⟩
    · have e4 : (r != 127) = true := by simpa using h127
      have HK : Hid (decide (keyK r) = decide (r ≤ 1114111 ∧ (r < 55296 ∨ 57343 < r))) := by
        show _ = _
        rw [Bool.eq_iff_iff, decide_eq_true_iff, decide_eq_true_iff]
        unfold keyK; omega
      clear h127
      generalize hgd : decide (r ≤ 1114111 ∧ (r < 55296 ∨ 57343 < r)) = d at HK
      have HC : Hid (∀ wz, Calls Tryd.prog 16 #[.int .i32 r] wz fun e w' => e = .returned (.bool d) ∧ wz = w') := fun wz => by
        have := keyValid_any r (by omega) wz
        rwa [hgd] at this
      clear hgd
      go_enter Tryd.func8, Tryd.ntmps8
      go_wp2_with (go_at_call 16; refine (HC.out _).mono ?_; rintro e w1 ⟨rfl, hw⟩; subst w1)
      go_ret
      exact ⟨ret_bool (by rw [HK.out]), rfl⟩
set_option maxHeartbeats 1000000 in
theorem keyHas2_any (S T : List UInt8) (_hS : S.length ≤ 1000000) (_hT : T.length ≤ 1000000) (w : World) : Calls Tryd.prog 28 #[.string ⟨S.toArray⟩, .string ⟨T.toArray⟩] w fun e w' => e = .returned (.bool (T.isPrefixOf S)) ∧ w = w' := by
  by_cases hl : T.length ≤ S.length
  · have hl' : (T.length : Int) ≤ (S.length : Int) := by omega
    have HE : Hid (T.isPrefixOf S = decide (S.take T.length = T)) := by
      show _ = _
      rw [Bool.eq_iff_iff, List.isPrefixOf_iff_prefix, decide_eq_true_iff, List.prefix_iff_eq_take]
      exact ⟨fun h => h.symm, fun h => h.symm⟩
    go_enter Tryd.func28, Tryd.ntmps28
    go_wp2_with fail
    go_ret
    refine ⟨?_, rfl⟩
    rw [HE.out, text_front]
    simp only [ByteArray.toList_eq]
    rw [show ((List.take T.length S).toArray.toList == T) = decide (List.take T.length S = T) by rw [Bool.eq_iff_iff, beq_iff_eq, decide_eq_true_iff]]
    rfl
  · have HE : Hid (T.isPrefixOf S = false) := by
      show _ = _
      rw [Bool.eq_false_iff]
      intro h
      exact hl (List.IsPrefix.length_le (List.isPrefixOf_iff_prefix.1 h))
    have hl' : ¬ (T.length : Int) ≤ (S.length : Int) := by omega
    clear hl
    go_enter Tryd.func28, Tryd.ntmps28
    go_wp2_with fail
    go_ret
    exact ⟨by rw [HE.out]; first | rfl | (simp; omega), rfl⟩
theorem keyHas_any (S T : List UInt8) (hS : S.length ≤ 1000000) (hT : T.length ≤ 1000000) (w : World) : Calls Tryd.prog 23 #[.string ⟨S.toArray⟩, .string ⟨T.toArray⟩] w fun e w' => e = .returned (.bool (T.isPrefixOf S)) ∧ w = w' := by
  go_enter Tryd.func23, Tryd.ntmps23
  go_wp2_with (go_at_call 28; refine (keyHas2_any S T hS hT _).mono ?_; rintro e w1 ⟨rfl, hw⟩; subst w1)
  go_ret
  exact ⟨rfl, rfl⟩
theorem keyEncode_any (A : Option Addr) (c B : Nat) (zs : List Int) (w : World) (h : Row w B A (zs.map runz)) :
    Calls Tryd.prog 26 #[.slice A zs.length c] w fun e w' => e = .returned (.string ⟨(encAll zs).toArray⟩) ∧ w = w' := by
  have hcv := text_of_runes (P := Tryd.prog) (c := c) 25 9 21 Tryd.underlying25 Tryd.underlying21 Tryd.underlying9 h
  go_enter Tryd.func26, Tryd.ntmps26
  go_wp2
  go_ret
  exact ⟨rfl, rfl⟩
end Go.Proofs.YtfoncmgcdldkdaaDoor

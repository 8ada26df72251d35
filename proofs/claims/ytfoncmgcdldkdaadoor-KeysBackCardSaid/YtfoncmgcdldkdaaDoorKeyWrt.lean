/-
  The landed written and meant: a key's form, and the key that bytes can mean.
-/
import Derived.Test.YtfoncmgcdldkdaaDoorKeyTab
namespace Go.Proofs.YtfoncmgcdldkdaaDoor
open Go.RowKit

def keyAt (k : Nat) : Nat := if k = 0 then 27 else if k = 1 then 13 else if k = 2 then 8 else if k = 3 then 9 else 60
theorem named_size : (Tryd.prog.info? 56).map (·.size) = some namedC.size := by kernel_rfl
theorem named_at0 (w : World) : (Instr.index 56 (.agg namedC) (.int .i64 0)).run Tryd.prog w = .ok (.agg #[.int .i32 27, .string ⟨#[60, 69, 115, 99, 62]⟩]) w := by kernel_rfl
theorem named_at1 (w : World) : (Instr.index 56 (.agg namedC) (.int .i64 1)).run Tryd.prog w = .ok (.agg #[.int .i32 13, .string ⟨#[60, 67, 82, 62]⟩]) w := by kernel_rfl
theorem named_at2 (w : World) : (Instr.index 56 (.agg namedC) (.int .i64 2)).run Tryd.prog w = .ok (.agg #[.int .i32 8, .string ⟨#[60, 66, 83, 62]⟩]) w := by kernel_rfl
theorem named_at3 (w : World) : (Instr.index 56 (.agg namedC) (.int .i64 3)).run Tryd.prog w = .ok (.agg #[.int .i32 9, .string ⟨#[60, 84, 97, 98, 62]⟩]) w := by kernel_rfl
theorem named_at4 (w : World) : (Instr.index 56 (.agg namedC) (.int .i64 4)).run Tryd.prog w = .ok (.agg #[.int .i32 60, .string ⟨#[60, 108, 116, 62]⟩]) w := by kernel_rfl
theorem keyEncode_one (x : Int) (w : World) : Calls Tryd.prog 26 #[.slice (some ⟨w.heap.size, 0, none⟩) 1 1] (w.alloc (.cells #[.int .i32 x] 21)) fun e w' => ∃ X : List UInt8, e = .returned (.string ⟨X.toArray⟩) ∧ Hid (X = encB x) ∧ X.length ≤ 4 ∧ Below w.heap.size w w' := by
  have h := keyEncode_any (some ⟨w.heap.size, 0, none⟩) 1 _ [x] (w.alloc (.cells #[.int .i32 x] 21)) (row_newL w 21 [.int .i32 x])
  refine h.mono ?_
  rintro e w' ⟨rfl, rfl⟩
  exact ⟨encB x, by simp [encAll], rfl, (encB_len x).2, (Below.refl _ w).alloc (Nat.le_refl _) _⟩
theorem writK_enc {r : Int} (h : keyK r) (h32 : ¬ r < 32) (h60 : r ≠ 60) : encB r = writK r.toNat := by
  unfold keyK at h
  have hm : mayB r = true := by
    unfold mayB
    simp
    omega
  unfold encB writK
  rw [if_pos hm, if_neg (by omega), if_neg (by omega), if_neg (by omega), if_neg (by omega), if_neg (by omega), if_neg (by omega)]
theorem writK_low {r : Int} (h : keyK r) (h32 : r < 32) (hn : ∀ j < 5, r ≠ keyAt j) : [60, 67, 45] ++ encB (r - 1 + 97) ++ [62] = writK r.toNat := by
  have a0 := hn 0 (by omega)
  have a1 := hn 1 (by omega)
  have a2 := hn 2 (by omega)
  have a3 := hn 3 (by omega)
  have a4 := hn 4 (by omega)
  simp only [keyAt] at a0 a1 a2 a3 a4
  unfold keyK at h
  have hm : mayB (r - 1 + 97) = true := by
    unfold mayB
    simp
    omega
  have he : encB (r - 1 + 97) = [byteOf (96 + r.toNat)] := by
    unfold encB enc
    rw [if_pos hm, if_pos (by omega), show (r - 1 + 97).toNat = 96 + r.toNat by omega]
  unfold writK
  rw [he, if_neg (by simp at a0; omega), if_neg (by simp at a1; omega), if_neg (by simp at a2; omega), if_neg (by simp at a3; omega), if_neg (by simp at a4; omega), if_pos (by omega)]
  rfl
set_option maxRecDepth 100000 in
set_option maxHeartbeats 2000000 in
theorem keyWritten_any (r : Int) (hr : -2147483648 ≤ r ∧ r ≤ 2147483647) (w : World) (hn : NamedW w) : Calls Tryd.prog 19 #[.int .i32 r] w fun e w' => ∃ T : List UInt8, e = .returned (.string ⟨T.toArray⟩) ∧ T.length ≤ 8 ∧ (keyK r → T = writK r.toNat) ∧ Below w.heap.size w w' := by
  obtain ⟨t, fr, hg⟩ := hn
  go_enter Tryd.func19, Tryd.ntmps19
  go_wp2_with ((with_reducible refine at_load 56 _ ?_); refine wpList_load_row rfl 56 _ rfl 0 rfl t namedC fr _ hg Tryd.underlying56 rfl named_size ?_)
  go_loopw [6] (fun i wr => ∃ k : Nat, k ≤ 5 ∧ i = .int .i64 k ∧ Hid (∀ j < k, r ≠ keyAt j) ∧ Below w.heap.size w wr) (fun i _ => 5 - (intOf i).toNat)
  case atStart => exact ⟨0, by omega, rfl, fun j hj => by omega, Below.refl _ _⟩
  case round =>
    obtain ⟨k, hk, rfl, HN, hb⟩ := hrel
    have i0 := named_at0
    have i1 := named_at1
    have i2 := named_at2
    have i3 := named_at3
    have i4 := named_at4
    have hsz := hb.size
    rcases k with _ | _ | _ | _ | _ | _ | k
    · by_cases h : (27 : Int) = r
      · subst h
        go_wp2_with fail
        go_ret
        exact ⟨[60, 69, 115, 99, 62], rfl, by simp, fun _ => rfl, hb.alloc hsz _⟩
      · have h' : ((27 : Int) == r) = false := by rw [beq_eq_false_iff_ne]; exact h
        have HS : Hid (∀ j < 1, r ≠ keyAt j) := fun j hj => by
          rcases Nat.lt_or_ge j 0 with hj2 | hj2
          · exact HN.out j hj2
          · obtain rfl : j = 0 := by omega
            exact fun e => h (by rw [e]; rfl)
        go_wp2_with fail
        exact ⟨⟨1, by omega, rfl, HS, hb.alloc hsz _⟩, by decide⟩
    · by_cases h : (13 : Int) = r
      · subst h
        go_wp2_with fail
        go_ret
        exact ⟨[60, 67, 82, 62], rfl, by simp, fun _ => rfl, hb.alloc hsz _⟩
      · have h' : ((13 : Int) == r) = false := by rw [beq_eq_false_iff_ne]; exact h
        have HS : Hid (∀ j < 2, r ≠ keyAt j) := fun j hj => by
          rcases Nat.lt_or_ge j 1 with hj2 | hj2
          · exact HN.out j hj2
          · obtain rfl : j = 1 := by omega
            exact fun e => h (by rw [e]; rfl)
        go_wp2_with fail
        exact ⟨⟨2, by omega, rfl, HS, hb.alloc hsz _⟩, by decide⟩
    · by_cases h : (8 : Int) = r
      · subst h
        go_wp2_with fail
        go_ret
        exact ⟨[60, 66, 83, 62], rfl, by simp, fun _ => rfl, hb.alloc hsz _⟩
      · have h' : ((8 : Int) == r) = false := by rw [beq_eq_false_iff_ne]; exact h
        have HS : Hid (∀ j < 3, r ≠ keyAt j) := fun j hj => by
          rcases Nat.lt_or_ge j 2 with hj2 | hj2
          · exact HN.out j hj2
          · obtain rfl : j = 2 := by omega
            exact fun e => h (by rw [e]; rfl)
        go_wp2_with fail
        exact ⟨⟨3, by omega, rfl, HS, hb.alloc hsz _⟩, by decide⟩
    · by_cases h : (9 : Int) = r
      · subst h
        go_wp2_with fail
        go_ret
        exact ⟨[60, 84, 97, 98, 62], rfl, by simp, fun _ => rfl, hb.alloc hsz _⟩
      · have h' : ((9 : Int) == r) = false := by rw [beq_eq_false_iff_ne]; exact h
        have HS : Hid (∀ j < 4, r ≠ keyAt j) := fun j hj => by
          rcases Nat.lt_or_ge j 3 with hj2 | hj2
          · exact HN.out j hj2
          · obtain rfl : j = 3 := by omega
            exact fun e => h (by rw [e]; rfl)
        go_wp2_with fail
        exact ⟨⟨4, by omega, rfl, HS, hb.alloc hsz _⟩, by decide⟩
    · by_cases h : (60 : Int) = r
      · subst h
        go_wp2_with fail
        go_ret
        exact ⟨[60, 108, 116, 62], rfl, by simp, fun _ => rfl, hb.alloc hsz _⟩
      · have h' : ((60 : Int) == r) = false := by rw [beq_eq_false_iff_ne]; exact h
        have HS : Hid (∀ j < 5, r ≠ keyAt j) := fun j hj => by
          rcases Nat.lt_or_ge j 4 with hj2 | hj2
          · exact HN.out j hj2
          · obtain rfl : j = 4 := by omega
            exact fun e => h (by rw [e]; rfl)
        go_wp2_with fail
        exact ⟨⟨5, by omega, rfl, HS, hb.alloc hsz _⟩, by decide⟩
    · by_cases h32 : r < 32
      · have hlow := fun h => writK_low (r := r) h h32 HN.out
        have HL := Lib.hid hlow
        clear hlow
        by_cases hmin : r = -2147483648
        · subst hmin
          go_wp2_with (go_at_call 26; refine (keyEncode_one _ _).mono ?_; rintro e w2 ⟨X, rfl, HX, hXl, b2⟩; have q1 : ¬ 9223372036854775807 < 3 + X.length := (by omega); have q2 : ¬ 9223372036854775807 < 3 + X.length + 1 := (by omega))
          go_ret
          exact ⟨[60, 67, 45] ++ X ++ [62], by rw [← bytes_app, ← bytes_app]; rfl, by simp; omega, fun h => by first | (rw [HX.out]; exact HL.out h) | (exact absurd h (by decide)), hb.trans (b2.mono hsz)⟩
        · go_wp2_with (go_at_call 26; refine (keyEncode_one _ _).mono ?_; rintro e w2 ⟨X, rfl, HX, hXl, b2⟩; have q1 : ¬ 9223372036854775807 < 3 + X.length := (by omega); have q2 : ¬ 9223372036854775807 < 3 + X.length + 1 := (by omega))
          go_ret
          exact ⟨[60, 67, 45] ++ X ++ [62], by rw [← bytes_app, ← bytes_app]; rfl, by simp; omega, fun h => by first | (rw [HX.out]; exact HL.out h) | (exact absurd h (by decide)), hb.trans (b2.mono hsz)⟩
      · have H60 := Lib.hid (HN.out 4 (by omega))
        go_wp2_with (go_at_call 26; refine (keyEncode_one _ _).mono ?_; rintro e w2 ⟨X, rfl, HX, hXl, b2⟩)
        go_ret
        exact ⟨X, rfl, by omega, fun h => HX.out.trans <| writK_enc h (by omega) (by have := H60.out; simp [keyAt] at this; exact this), hb.trans (b2.mono hsz)⟩
    · omega
/-- the key that bytes can mean, whose first sign is r -/
structure Meant (S : List UInt8) (r m : Int) : Prop where
  other : r ≠ 60 → m = r
  angle : r = 60 → ∀ x : Nat, angK x = true → writK x <+: S → m = x
  bound : -2147483648 ≤ m ∧ m ≤ 2147483647
theorem tab_ang : ∀ k < 5, angK (keyAt k) = true := by decide
theorem meant_tab {S : List UInt8} {k : Nat} (hk : k < 5) (h : writK (keyAt k) <+: S) : Meant S 60 (keyAt k : Nat) := by
  refine ⟨fun e => absurd rfl e, fun _ x hx hp => ?_, ?_⟩
  · obtain ⟨t, rfl⟩ := h
    exact congrArg _ (ang_only hx (tab_ang k hk) hp).symm
  · have : ∀ k < 5, keyAt k ≤ 60 := by decide
    have := this k hk
    omega
theorem meant_rest {S : List UInt8} (hn : ∀ j < 5, ¬ writK (keyAt j) <+: S) {x : Nat} (hx : angK x = true) (hp : writK x <+: S) : 3 < S.length ∧ ∀ h : 3 < S.length, (S[3].toNat : Int) - 97 + 1 = x := by
  have a0 := hn 0 (by omega)
  have a1 := hn 1 (by omega)
  have a2 := hn 2 (by omega)
  have a3 := hn 3 (by omega)
  have a4 := hn 4 (by omega)
  have b0 : x ≠ 27 := fun e => a0 (by subst e; exact hp)
  have b1 : x ≠ 13 := fun e => a1 (by subst e; exact hp)
  have b2 : x ≠ 8 := fun e => a2 (by subst e; exact hp)
  have b3 : x ≠ 9 := fun e => a3 (by subst e; exact hp)
  have b4 : x ≠ 60 := fun e => a4 (by subst e; exact hp)
  have hr := of_decide_eq_true hx
  have hw : writK x = [60, 67, 45, byteOf (96 + x), 62] := by
    unfold writK
    rw [if_neg b0, if_neg b1, if_neg b2, if_neg b3, if_neg b4, if_pos (by omega)]
  rw [hw] at hp
  obtain ⟨t, rfl⟩ := hp
  refine ⟨by simp, fun _ => ?_⟩
  have : ([60, 67, 45, byteOf (96 + x), 62] ++ t)[3]'(by simp) = byteOf (96 + x) := rfl
  rw [this, byteOf_nat (by omega)]
  omega
set_option maxRecDepth 100000 in
set_option maxHeartbeats 2000000 in
theorem keyMeant_any (S : List UInt8) (hS : S.length ≤ 1000000) (r : Int) (hr : -2147483648 ≤ r ∧ r ≤ 2147483647) (w : World) (hn : NamedW w) : Calls Tryd.prog 22 #[.string ⟨S.toArray⟩, .int .i32 r] w fun e w' => ∃ m : Int, e = .returned (.int .i32 m) ∧ Meant S r m ∧ Below w.heap.size w w' := by
  obtain ⟨t, fr, hg⟩ := hn
  by_cases h60 : r = 60
  · subst h60
    go_enter Tryd.func22, Tryd.ntmps22
    go_wp2_with ((with_reducible refine at_load 56 _ ?_); refine wpList_load_row rfl 56 _ rfl 0 rfl t namedC fr _ hg Tryd.underlying56 rfl named_size ?_)
    go_loopw [11] (fun i wr => ∃ k : Nat, k ≤ 5 ∧ i = .int .i64 k ∧ Hid (∀ j < k, ¬ writK (keyAt j) <+: S) ∧ Below w.heap.size w wr) (fun i _ => 5 - (intOf i).toNat)
    case atStart => exact ⟨0, by omega, rfl, fun j hj => by omega, Below.refl _ _⟩
    case round =>
      obtain ⟨k, hk, rfl, HN, hb⟩ := hrel
      have i0 := named_at0
      have i1 := named_at1
      have i2 := named_at2
      have i3 := named_at3
      have i4 := named_at4
      have hsz := hb.size
      rcases k with _ | _ | _ | _ | _ | _ | k
      · rcases hp : ([60, 69, 115, 99, 62] : List UInt8).isPrefixOf S with _ | _
        · have HS : Hid (∀ j < 1, ¬ writK (keyAt j) <+: S) := fun j hj => by
            rcases Nat.lt_or_ge j 0 with hj2 | hj2
            · exact HN.out j hj2
            · obtain rfl : j = 0 := by omega
              intro e
              have := List.isPrefixOf_iff_prefix.2 e
              rw [show writK (keyAt 0) = [60, 69, 115, 99, 62] from rfl, hp] at this
              cases this
          go_wp2_with (go_at_call 23; refine (keyHas_any S [60, 69, 115, 99, 62] hS (by simp) _).mono ?_; rw [hp]; rintro e w2 ⟨rfl, hw⟩; subst w2)
          exact ⟨⟨1, by omega, rfl, HS, hb.alloc hsz _⟩, by decide⟩
        · have HM := Lib.hid (meant_tab (S := S) (k := 0) (by omega) (List.isPrefixOf_iff_prefix.1 hp))
          go_wp2_with (go_at_call 23; refine (keyHas_any S [60, 69, 115, 99, 62] hS (by simp) _).mono ?_; rw [hp]; rintro e w2 ⟨rfl, hw⟩; subst w2)
          go_ret
          exact ⟨_, rfl, HM.out, hb.alloc hsz _⟩
      · rcases hp : ([60, 67, 82, 62] : List UInt8).isPrefixOf S with _ | _
        · have HS : Hid (∀ j < 2, ¬ writK (keyAt j) <+: S) := fun j hj => by
            rcases Nat.lt_or_ge j 1 with hj2 | hj2
            · exact HN.out j hj2
            · obtain rfl : j = 1 := by omega
              intro e
              have := List.isPrefixOf_iff_prefix.2 e
              rw [show writK (keyAt 1) = [60, 67, 82, 62] from rfl, hp] at this
              cases this
          go_wp2_with (go_at_call 23; refine (keyHas_any S [60, 67, 82, 62] hS (by simp) _).mono ?_; rw [hp]; rintro e w2 ⟨rfl, hw⟩; subst w2)
          exact ⟨⟨2, by omega, rfl, HS, hb.alloc hsz _⟩, by decide⟩
        · have HM := Lib.hid (meant_tab (S := S) (k := 1) (by omega) (List.isPrefixOf_iff_prefix.1 hp))
          go_wp2_with (go_at_call 23; refine (keyHas_any S [60, 67, 82, 62] hS (by simp) _).mono ?_; rw [hp]; rintro e w2 ⟨rfl, hw⟩; subst w2)
          go_ret
          exact ⟨_, rfl, HM.out, hb.alloc hsz _⟩
      · rcases hp : ([60, 66, 83, 62] : List UInt8).isPrefixOf S with _ | _
        · have HS : Hid (∀ j < 3, ¬ writK (keyAt j) <+: S) := fun j hj => by
            rcases Nat.lt_or_ge j 2 with hj2 | hj2
            · exact HN.out j hj2
            · obtain rfl : j = 2 := by omega
              intro e
              have := List.isPrefixOf_iff_prefix.2 e
              rw [show writK (keyAt 2) = [60, 66, 83, 62] from rfl, hp] at this
              cases this
          go_wp2_with (go_at_call 23; refine (keyHas_any S [60, 66, 83, 62] hS (by simp) _).mono ?_; rw [hp]; rintro e w2 ⟨rfl, hw⟩; subst w2)
          exact ⟨⟨3, by omega, rfl, HS, hb.alloc hsz _⟩, by decide⟩
        · have HM := Lib.hid (meant_tab (S := S) (k := 2) (by omega) (List.isPrefixOf_iff_prefix.1 hp))
          go_wp2_with (go_at_call 23; refine (keyHas_any S [60, 66, 83, 62] hS (by simp) _).mono ?_; rw [hp]; rintro e w2 ⟨rfl, hw⟩; subst w2)
          go_ret
          exact ⟨_, rfl, HM.out, hb.alloc hsz _⟩
      · rcases hp : ([60, 84, 97, 98, 62] : List UInt8).isPrefixOf S with _ | _
        · have HS : Hid (∀ j < 4, ¬ writK (keyAt j) <+: S) := fun j hj => by
            rcases Nat.lt_or_ge j 3 with hj2 | hj2
            · exact HN.out j hj2
            · obtain rfl : j = 3 := by omega
              intro e
              have := List.isPrefixOf_iff_prefix.2 e
              rw [show writK (keyAt 3) = [60, 84, 97, 98, 62] from rfl, hp] at this
              cases this
          go_wp2_with (go_at_call 23; refine (keyHas_any S [60, 84, 97, 98, 62] hS (by simp) _).mono ?_; rw [hp]; rintro e w2 ⟨rfl, hw⟩; subst w2)
          exact ⟨⟨4, by omega, rfl, HS, hb.alloc hsz _⟩, by decide⟩
        · have HM := Lib.hid (meant_tab (S := S) (k := 3) (by omega) (List.isPrefixOf_iff_prefix.1 hp))
          go_wp2_with (go_at_call 23; refine (keyHas_any S [60, 84, 97, 98, 62] hS (by simp) _).mono ?_; rw [hp]; rintro e w2 ⟨rfl, hw⟩; subst w2)
          go_ret
          exact ⟨_, rfl, HM.out, hb.alloc hsz _⟩
      · rcases hp : ([60, 108, 116, 62] : List UInt8).isPrefixOf S with _ | _
        · have HS : Hid (∀ j < 5, ¬ writK (keyAt j) <+: S) := fun j hj => by
            rcases Nat.lt_or_ge j 4 with hj2 | hj2
            · exact HN.out j hj2
            · obtain rfl : j = 4 := by omega
              intro e
              have := List.isPrefixOf_iff_prefix.2 e
              rw [show writK (keyAt 4) = [60, 108, 116, 62] from rfl, hp] at this
              cases this
          go_wp2_with (go_at_call 23; refine (keyHas_any S [60, 108, 116, 62] hS (by simp) _).mono ?_; rw [hp]; rintro e w2 ⟨rfl, hw⟩; subst w2)
          exact ⟨⟨5, by omega, rfl, HS, hb.alloc hsz _⟩, by decide⟩
        · have HM := Lib.hid (meant_tab (S := S) (k := 4) (by omega) (List.isPrefixOf_iff_prefix.1 hp))
          go_wp2_with (go_at_call 23; refine (keyHas_any S [60, 108, 116, 62] hS (by simp) _).mono ?_; rw [hp]; rintro e w2 ⟨rfl, hw⟩; subst w2)
          go_ret
          exact ⟨_, rfl, HM.out, hb.alloc hsz _⟩
      · have HR := Lib.hid (fun x hx hp => meant_rest (x := x) HN.out hx hp)
        by_cases h3 : 3 < S.length
        · have h3' : (3 : Int) < (S.length : Int) := by omega
          have hby := byte_at S 3 h3
          have hlt := S[3].toNat_lt
          go_wp2_with fail
          go_ret
          exact ⟨_, rfl, ⟨fun e => absurd rfl e, fun _ x hx hp => (HR.out x hx hp).2 h3, by omega⟩, hb⟩
        · have h3' : ¬ (3 : Int) < (S.length : Int) := by omega
          go_wp2_with fail
          go_ret
          exact ⟨60, rfl, ⟨fun e => absurd rfl e, fun _ x hx hp => absurd (HR.out x hx hp).1 h3, by omega⟩, hb⟩
      · omega
  · have h' : (r != 60) = true := by rw [bne_iff_ne]; exact h60
    go_enter Tryd.func22, Tryd.ntmps22
    go_wp2_with fail
    go_ret
    exact ⟨r, rfl, ⟨fun _ => rfl, fun e => absurd e h60, hr⟩, Below.refl _ _⟩
end Go.Proofs.YtfoncmgcdldkdaaDoor

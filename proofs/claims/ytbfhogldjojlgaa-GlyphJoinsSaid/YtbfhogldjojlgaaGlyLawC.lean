/-
  The walk of a statement of layer 2, from what package glyph's functions answer: GlyphJoins.
-/
import Derived.Test.YtbfhogldjojlgaaGlyMath
namespace Go.Proofs.Ytbfhogldjojlgaa
open Go.RowKit

theorem starts_join (l m : List (Nat × Nat)) (k : Nat) (h : k < (startsAt 0 (l ++ m)).length) :
    (∀ hk : k < (startsAt 0 l).length, (startsAt 0 (l ++ m))[k] = (startsAt 0 l)[k]) ∧
    (∀ hk : ¬ k < (startsAt 0 l).length, ∃ h' : k - (startsAt 0 l).length < (startsAt 0 m).length, (startsAt 0 (l ++ m))[k] = width l + (startsAt 0 m)[k - (startsAt 0 l).length]) := by
  have hl : ∀ (a : Nat) (m : List (Nat × Nat)), startsAt a m = (startsAt 0 m).map (a + ·) := by
    intro a m
    have key : ∀ (m : List (Nat × Nat)) (a b : Nat), startsAt (a + b) m = (startsAt b m).map (a + ·) := by
      intro m
      induction m with
      | nil => intro a b; rfl
      | cons x m ih => intro a b; simp only [startsAt, List.map_cons]; rw [Nat.add_assoc, ih]
    simpa using key m a 0
  have e : startsAt 0 (l ++ m) = startsAt 0 l ++ (startsAt 0 m).map (width l + ·) := by
    rw [startsAt_append, Nat.zero_add, hl (width l) m]
  refine ⟨fun hk => ?_, fun hk => ?_⟩
  · simp only [e]; rw [List.getElem_append_left hk]
  · have h' : k - (startsAt 0 l).length < (startsAt 0 m).length := by
      rw [e, List.length_append, List.length_map] at h; omega
    refine ⟨h', ?_⟩
    simp only [e]
    rw [List.getElem_append_right (by omega)]
    simp
theorem cat2 (a b : List UInt8) : ({ data := a.toArray } : ByteArray) ++ { data := b.toArray } = ⟨(a ++ b).toArray⟩ := by
  apply ByteArray.ext
  simp [ByteArray.data_append]

set_option maxHeartbeats 2000000 in
theorem glyphJoins_walk (G : GlySays) (w : World) (S : List UInt8) (hS : S.length ≤ maxLen) (T : List UInt8) (hT : T.length ≤ maxLen) :
    Calls Try.prog 7 #[.string ⟨S.toArray⟩, .string ⟨T.toArray⟩] w fun e w' => e = .returned (.bool true) ∧ Below w.heap.size w w' := by
  have HG := Lib.hid G
  clear G
  by_cases hmost : 4096 < S.length
  · go_enter Try.func7, Try.ntmps7
    go_wp2_with (go_at_call 9; refine (glyAlive_any HG.out _).mono ?_; rintro e w1 ⟨rfl, hb1⟩)
    go_ret
    exact ⟨rfl, hb1⟩
  · by_cases hmost2 : 4096 < T.length
    · go_enter Try.func7, Try.ntmps7
      go_wp2_with (go_at_call 9; refine (glyAlive_any HG.out _).mono ?_; rintro e w1 ⟨rfl, hb1⟩)
      go_ret
      exact ⟨rfl, hb1⟩
    · have hs : S.length ≤ 1000000 := by omega
      have ht : T.length ≤ 1000000 := by omega
      have hst : (S ++ T).length ≤ 1000000 := by rw [List.length_append]; omega
      cases hv : (chars S).all fun x => !broken x with
      | false =>
        have HV := Lib.hid hv
        clear hv
        go_enter Try.func7, Try.ntmps7
        go_wp2_with fail
        refine (glyAlive_any HG.out _).mono ?_
        rintro e w1 ⟨rfl, hb1⟩
        go_wp2_with fail
        refine (HG.out.valid S _ hs).mono ?_
        rintro e w2 ⟨rfl, hb2⟩
        rw [HV.out]
        go_wp2_with fail
        go_ret
        exact ⟨rfl, hb1.trans (hb2.mono hb1.size)⟩
      | true =>
        have HV := Lib.hid hv
        have HA := Lib.hid (chars_append T S.length S (Nat.le_refl _) hv)
        have HW := Lib.hid (width_chars S)
        clear hv
        have hcs := chars_len S
        have hct := chars_len T
        have HLS : Hid ((startsAt 0 (chars S)).length = (chars S).length) := startsAt_len _ _
        have HLT : Hid ((startsAt 0 (chars T)).length = (chars T).length) := startsAt_len _ _
        have HLA : Hid ((startsAt 0 (chars S ++ chars T)).length = (chars S).length + (chars T).length) := by
          show List.length _ = _; rw [startsAt_len, List.length_append]
        have HJ := Lib.hid (starts_join (chars S) (chars T))
        have hcat := cat2 S T
        have hbig : ¬ 9223372036854775807 < S.length + T.length := by omega
        have hwl := width_le_take (chars T)
        have HWT := Lib.hid (width_chars T)
        clear hwl
        go_enter Try.func7, Try.ntmps7
        go_wp2_with fail
        refine (glyAlive_any HG.out _).mono ?_
        rintro e w1 ⟨rfl, hb1⟩
        have z1 := hb1.size
        go_wp2_with fail
        refine (HG.out.valid S _ hs).mono ?_
        rintro e w2 ⟨rfl, hb2⟩
        rw [HV.out]
        have z2 := hb2.size
        go_wp2_with fail
        refine (HG.out.starts S _ hs).mono ?_
        rintro e w3 ⟨A3, c3, rfl, hown3, hb3⟩
        have z3 := hb3.size
        go_wp2_with fail
        refine (HG.out.starts T _ ht).mono ?_
        rintro e w4 ⟨A4, c4, rfl, hown4, hb4⟩
        have z4 := hb4.size
        go_wp2_with fail
        refine (HG.out.starts (S ++ T) _ hst).mono ?_
        rintro e w5 ⟨A5, c5, rfl, hown5, hb5⟩
        have z5 := hb5.size
        rw [HA.out] at hown5 ⊢
        have r3 := ((Row.of_own hown3).below hb4).below (hb5.mono z4)
        have r4 := (Row.of_own hown4).below hb5
        have r5 := Row.of_own hown5
        clear hown3 hown4 hown5
        have hB5 : Below w.heap.size w w5 := (((hb1.trans (hb2.mono z1)).trans (hb3.mono (by omega))).trans (hb4.mono (by omega))).trans (hb5.mono (by omega))
        rw [HLS.out, HLT.out, HLA.out]
        go_wp2_with fail
        go_loop [41] (fun i => ∃ k : Nat, k ≤ (chars S).length + (chars T).length ∧ i = .int .i64 k) (fun i => (chars S).length + (chars T).length - (intOf i).toNat)
        case atStart => exact ⟨0, Nat.zero_le _, rfl⟩
        case round =>
          obtain ⟨k, hk, rfl⟩ := hrel
          by_cases hlt : k < (chars S).length + (chars T).length
          · obtain ⟨ad, rfl, hbl, hcell⟩ := r5.map_at (k := k) (by rw [HLA.out]; exact hlt)
            obtain ⟨hj1, hj2⟩ := HJ.out k (by rw [HLA.out]; exact hlt)
            unfold intn at hcell
            by_cases hlt2 : k < (chars S).length
            · obtain ⟨ae, rfl, hbl2, hcell2⟩ := r3.map_at (k := k) (by rw [HLS.out]; exact hlt2)
              rw [hj1 (by rw [HLS.out]; exact hlt2)] at hcell
              unfold intn at hcell2
              clear hj1 hj2
              generalize (startsAt 0 (chars S))[k]'(by rw [HLS.out]; exact hlt2) = z at *
              go_wp2
              go_round
              case rel => exact ⟨k + 1, by omega, by go_num⟩
              case measure => simp [intOf]; omega
            · obtain ⟨hj3, hj4⟩ := hj2 (by rw [HLS.out]; exact hlt2)
              rw [hj4, HW.out] at hcell
              clear hj1 hj2 hj4
              have hidx : k - (startsAt 0 (chars S)).length = k - (chars S).length := by rw [HLS.out]
              have HI := Lib.hid hidx
              clear hidx
              obtain ⟨ae, rfl, hbl2, hcell2⟩ := r4.map_at (k := k - (chars S).length) (by rw [← HI.out]; exact hj3)
              have hb0 : (startsAt 0 (chars T))[k - (chars S).length]'(by rw [← HI.out]; exact hj3) ≤ T.length := by
                rw [startsAt_get _ _ (by rw [HLT.out] at hj3; rw [← HI.out]; exact hj3), ← HWT.out]
                exact width_le_take _ _
              simp only [HI.out] at hcell
              unfold intn at hcell2
              generalize (startsAt 0 (chars T))[k - (chars S).length]'(by rw [← HI.out]; exact hj3) = z at *
              clear hj3
              go_wp2
              go_round
              case rel => exact ⟨k + 1, by omega, by go_num⟩
              case measure => simp [intOf]; omega
          · go_wp2_with fail
            refine (HG.out.valid (S ++ T) _ hst).mono ?_
            rintro e w6 ⟨rfl, hb6⟩
            rw [HA.out, List.all_append, HV.out, Bool.true_and]
            go_wp2_with fail
            refine (HG.out.valid T _ ht).mono ?_
            rintro e w7 ⟨rfl, hb7⟩
            go_wp2_with fail
            go_ret
            have z6 := hb6.size
            have z0 := hB5.size
            exact ⟨rfl, (hB5.trans (hb6.mono z0)).trans (hb7.mono (by omega))⟩
end Go.Proofs.Ytbfhogldjojlgaa

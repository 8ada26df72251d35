/-
  For any two lists and any two places: what was spliced in is taken out by splicing back what was there.
  No condition.
-/
import Derived.Test.YthdflibljngjiaaRunAlive
import Derived.Test.YthdflibljngjiaaRunOpen
import Derived.Test.YthdflibljngjiaaPairOpen
import Derived.Test.YthdflibljngjiaaRunTwice
namespace Go.Proofs.Ythdflibljngjiaa.runsUndone
open Go.ChangeShapes Go.WideShapes Go.ChangeAt Go.RowKit

set_option maxHeartbeats 1600000 in
theorem walk (w : World) (A : Option Addr) (c : Nat) (l : List RunP) (hlen : l.length ≤ maxLen) (hf : Fits l) (h : Row w w.heap.size A (flatR l)) (f t : Int) (_hf : -9223372036854775808 ≤ f ∧ f ≤ 9223372036854775807) (_ht : -9223372036854775808 ≤ t ∧ t ≤ 9223372036854775807)
    (A2 : Option Addr) (d : Nat) (m : List RunP) (hlen2 : m.length ≤ maxLen) (hf2 : Fits m) (hh : Row w w.heap.size A2 (flatR m)) :
    Calls Try.prog 10 #[.slice A l.length c, .agg #[.int .i64 f, .int .i64 t], .slice A2 m.length d] w fun e w' => e = .returned (.bool true) ∧ Below w.heap.size w w' := by
  have HF := Lib.hid hf
  have HF2 := Lib.hid hf2
  clear hf hf2
  have BX := Lib.hid (Blk.new w 43 #[.int .i64 f, .int .i64 t])
  have SX : Hid ((w.alloc (.cells #[.int .i64 f, .int .i64 t] 43)).heap.size = w.heap.size + 1) := by show _ = _; simp
  have B0 : Hid (Below w.heap.size w (w.alloc (.cells #[.int .i64 f, .int .i64 t] 43))) := (Below.refl _ w).alloc (Nat.le_refl _) _
  by_cases hmostl : 5000 < l.length
  · go_enter Try.func10, Try.ntmps10
    go_wp2_with (go_at_call 11; refine (runsAlive_any _).mono ?_; rintro e w1 ⟨rfl, hb1⟩)
    go_ret
    exact ⟨rfl, B0.out.trans (hb1.mono (by rw [SX.out]; omega))⟩
  · by_cases hmostm : 5000 < m.length
    · go_enter Try.func10, Try.ntmps10
      go_wp2_with (go_at_call 11; refine (runsAlive_any _).mono ?_; rintro e w1 ⟨rfl, hb1⟩)
      go_ret
      exact ⟨rfl, B0.out.trans (hb1.mono (by rw [SX.out]; omega))⟩
    · by_cases hk : withinB l f t = true ∧ goodB m = true ∧ ((bytesOf l).length : Int) - (t - f) + ((bytesOf m).length : Int) ≤ 4096
      · obtain ⟨_, h0, h1, h2, h3, _⟩ := within_of hk.1
        have htm := totalOf_le m
        obtain ⟨F, rfl⟩ : ∃ F : Nat, f = (F : Int) := ⟨f.toNat, by omega⟩
        obtain ⟨T, rfl⟩ : ∃ T : Nat, t = (T : Int) := ⟨t.toNat, by omega⟩
        obtain ⟨O, X, e1, e2, e3, e4, fo, fx, lo, lx⟩ := undone_ok HF.out HF2.out hk.1 hk.2.1 hk.2.2
        have HE := Lib.hid (And.intro e1 (And.intro e2 (And.intro e3 (And.intro e4 (And.intro fo fx)))))
        have hF : F ≤ 4096 := by omega
        have hws := wrap_small ((F : Int) + (totalOf m : Nat)) (by omega) (by omega)
        clear e1 e2 e3 e4 fo fx hk h0 h1 h2 h3 _hf _ht
        go_enter Try.func10, Try.ntmps10
        go_wp2_with fail
        refine (runsAlive_any _).mono ?_
        rintro e w1 ⟨rfl, hb1⟩
        have z1 : w.heap.size + 1 ≤ w1.heap.size := by have := hb1.size; rw [SX.out] at this; exact this
        have b1 := B0.out.trans (hb1.mono (by rw [SX.out]; omega))
        have x1 := BX.out.below hb1 (by rw [SX.out]; omega)
        have k0 := x1.cell 0
        have k1 := x1.cell 1
        simp at k0 k1
        clear hb1 BX SX B0
        go_wp2_with fail
        refine (runSlice_any A c w.heap.size l (F : Int) (T : Int) HF.out hlen w1 (by omega) (h.below b1)).mono ?_
        rw [HE.out.1]
        rintro e w2 ⟨AO, cO, rfl, hown2, hb2⟩
        have z2 := hb2.size
        have b2 := b1.trans (hb2.mono (by omega))
        have x2 := x1.below hb2 (by omega)
        have rO2 := Row.of_own hown2
        dsimp only at rO2 ⊢
        clear hown2 hb2 k0 k1 x1
        have k0 := x2.cell 0
        have k1 := x2.cell 1
        simp at k0 k1
        go_wp2_with fail
        refine (runSplice_any A A2 c d w.heap.size w.heap.size l m (F : Int) (T : Int) HF.out HF2.out hlen hlen2 w2 (by omega) (by omega) (h.below b2) (hh.below b2)).mono ?_
        rw [HE.out.2.1]
        rintro e w3 ⟨AX, cX, rfl, hown3, hb3⟩
        have z3 := hb3.size
        have b3 := b2.trans (hb3.mono (by omega))
        have x3 := x2.below hb3 (by omega)
        have rX3 := Row.of_own hown3
        have rO3 := rO2.below hb3
        dsimp only at rX3 ⊢
        clear hown3 hb3 k0 k1 x2 rO2
        have KX := Lib.hid (x3.drewN 1)
        have K3 : Hid (w3.drew.cell? ⟨w.heap.size, 0, none⟩ = some (.int .i64 (F : Nat))) := cell_first KX.out
        go_wp2_with fail
        go_region_held3 (fun w' => w'.cell? ⟨w.heap.size, 0, none⟩ = some (.int .i64 (F : Nat)))
          (first
            | exact K3.out
            | exact K4.out
            | exact K5.out)
          (first
            | (go_at_call 17; refine (runTotal_any A2 d w.heap.size m HF2.out hlen2 w3.drew (by show w.heap.size ≤ w3.heap.size; omega) ((hh.below b3).drewN 1)).mono ?_; rintro e w4 ⟨rfl, hb4⟩; have z4 : w3.heap.size ≤ w4.heap.size := hb4.size; have b4 := (below_drewN b3 1).trans (hb4.mono (by show w.heap.size ≤ w3.heap.size; omega)); have x4 := KX.out.below hb4 (by show w.heap.size < w3.heap.size; omega); have K4 : Hid (w4.cell? ⟨w.heap.size, 0, none⟩ = some (.int .i64 (F : Nat))) := cell_first x4; have RX4 := Lib.hid ((rX3.drewN 1).below hb4); have RO4 := Lib.hid ((rO3.drewN 1).below (hb4.mono (by show w2.heap.size ≤ w3.heap.size; omega))); have X4 := Lib.hid x4; clear x4 hb4)
            | (go_at_call 23; refine (runSlice_any AX cX w3.heap.size X (F : Int) ((F : Int) + (totalOf m : Nat)) HE.out.2.2.2.2.2 lx w4 z4 RX4.out).mono ?_; rw [HE.out.2.2.1]; rintro e w5 ⟨AM, cM, rfl, hown5, hb5⟩; have z5 := hb5.size; have b5 := b4.trans (hb5.mono (by omega)); have K5 : Hid (w5.cell? ⟨w.heap.size, 0, none⟩ = some (.int .i64 (F : Nat))) := cell_first (X4.out.below hb5 (by omega)); have X5 := Lib.hid (X4.out.below hb5 (by omega)); have RX5 := Lib.hid (RX4.out.below (hb5.mono z4)); have RO5 := Lib.hid (RO4.out.below (hb5.mono (by omega))); have RM5 := Lib.hid (Row.of_own hown5); clear hown5 hb5))
        have KY := Lib.hid (X5.out.drewN 1)
        have K6 : Hid (w5.drew.cell? ⟨w.heap.size, 0, none⟩ = some (.int .i64 (F : Nat))) := cell_first KY.out
        go_wp2_with fail
        go_region_held3 (fun w' => w'.cell? ⟨w.heap.size, 0, none⟩ = some (.int .i64 (F : Nat)))
          (first
            | exact K6.out
            | exact K7.out
            | exact K8.out)
          (first
            | (go_at_call 17; refine (runTotal_any A2 d w.heap.size m HF2.out hlen2 w5.drew (by show w.heap.size ≤ w5.heap.size; omega) ((hh.below b5).drewN 1)).mono ?_; rintro e w6 ⟨rfl, hb6⟩; have z6 : w5.heap.size ≤ w6.heap.size := hb6.size; have b6 := (below_drewN b5 1).trans (hb6.mono (by show w.heap.size ≤ w5.heap.size; omega)); have x6 := KY.out.below hb6 (by show w.heap.size < w5.heap.size; omega); have K7 : Hid (w6.cell? ⟨w.heap.size, 0, none⟩ = some (.int .i64 (F : Nat))) := cell_first x6; have RX6 := Lib.hid ((RX5.out.drewN 1).below (hb6.mono (by show w3.heap.size ≤ w5.heap.size; omega))); have RO6 := Lib.hid ((RO5.out.drewN 1).below (hb6.mono (by show w2.heap.size ≤ w5.heap.size; omega))); have RM6 := Lib.hid ((RM5.out.drewN 1).below hb6); have X6 := Lib.hid x6; clear x6 hb6)
            | (go_at_call 27; refine (runSplice_any AX AO cX cO w3.heap.size w2.heap.size X O (F : Int) ((F : Int) + (totalOf m : Nat)) HE.out.2.2.2.2.2 HE.out.2.2.2.2.1 lx lo w6 (by omega) (by omega) RX6.out RO6.out).mono ?_; rw [HE.out.2.2.2.1]; rintro e w7 ⟨AY, cY, rfl, hown7, hb7⟩; have z7 := hb7.size; have b7 := b6.trans (hb7.mono (by omega)); have K8 : Hid (w7.cell? ⟨w.heap.size, 0, none⟩ = some (.int .i64 (F : Nat))) := cell_first (X6.out.below hb7 (by omega)); have RM7 := Lib.hid (RM6.out.below (hb7.mono z6)); have RY7 := Lib.hid (Row.of_own hown7); clear hown7 hb7))
        go_wp2_with (first
          | (go_at_call_of 14 m; refine (refSame_any AM A2 cM d w5.heap.size w.heap.size m m hlen2 hlen2 w7 (by omega) (by omega) RM7.out (hh.below b7)).mono ?_; rintro e w8 ⟨rfl, hb8⟩; rw [decide_eq_true rfl]; have z8 := hb8.size; have b8 := b7.trans (hb8.mono (by omega)); have RY8 := Lib.hid (RY7.out.below hb8); clear hb8)
          | (go_at_call 14; refine (refSame_any AY A cY c w7.heap.size w.heap.size l l hlen hlen w8 (by omega) (by omega) RY8.out (h.below b8)).mono ?_; rintro e w9 ⟨rfl, hb9⟩; rw [decide_eq_true rfl]; have b9 := b8.trans (hb9.mono (by omega)); clear hb9))
        go_ret
        exact ⟨rfl, b9⟩
      · rcases undone_no (l := l) (m := m) (f := f) (t := t) hk with ⟨e1, e2⟩ | ⟨O, e1, e2⟩ | ⟨O, e1, e2⟩
        all_goals clear hk
        all_goals have HE1 := Lib.hid e1
        all_goals have HE2 := Lib.hid e2
        all_goals clear e1 e2
        · go_enter Try.func10, Try.ntmps10
          go_wp2_with fail
          refine (runsAlive_any _).mono ?_
          rintro e w1 ⟨rfl, hb1⟩
          have z1 : w.heap.size + 1 ≤ w1.heap.size := by have := hb1.size; rw [SX.out] at this; exact this
          have b1 := B0.out.trans (hb1.mono (by rw [SX.out]; omega))
          have x1 := BX.out.below hb1 (by rw [SX.out]; omega)
          have k0 := x1.cell 0
          have k1 := x1.cell 1
          simp at k0 k1
          clear hb1 BX SX B0
          go_wp2_with fail
          refine (runSlice_any A c w.heap.size l f t HF.out hlen w1 (by omega) (h.below b1)).mono ?_
          rw [HE1.out]
          rintro e w2 ⟨AO, cO, rfl, hown2, hb2⟩
          have z2 := hb2.size
          have b2 := b1.trans (hb2.mono (by omega))
          have x2 := x1.below hb2 (by omega)
          dsimp only
          clear hown2 hb2 k0 k1 x1
          have k0 := x2.cell 0
          have k1 := x2.cell 1
          simp at k0 k1
          go_wp2_with fail
          refine (runSplice_any A A2 c d w.heap.size w.heap.size l m f t HF.out HF2.out hlen hlen2 w2 (by omega) (by omega) (h.below b2) (hh.below b2)).mono ?_
          rw [HE2.out]
          rintro e w3 ⟨AX, cX, rfl, hown3, hb3⟩
          have b3 := b2.trans (hb3.mono (by omega))
          dsimp only
          clear hown3 hb3 k0 k1 x2
          go_wp2
          go_ret
          exact ⟨rfl, b3⟩
        · go_enter Try.func10, Try.ntmps10
          go_wp2_with fail
          refine (runsAlive_any _).mono ?_
          rintro e w1 ⟨rfl, hb1⟩
          have z1 : w.heap.size + 1 ≤ w1.heap.size := by have := hb1.size; rw [SX.out] at this; exact this
          have b1 := B0.out.trans (hb1.mono (by rw [SX.out]; omega))
          have x1 := BX.out.below hb1 (by rw [SX.out]; omega)
          have k0 := x1.cell 0
          have k1 := x1.cell 1
          simp at k0 k1
          clear hb1 BX SX B0
          go_wp2_with fail
          refine (runSlice_any A c w.heap.size l f t HF.out hlen w1 (by omega) (h.below b1)).mono ?_
          rw [HE1.out]
          rintro e w2 ⟨AO, cO, rfl, hown2, hb2⟩
          have z2 := hb2.size
          have b2 := b1.trans (hb2.mono (by omega))
          have x2 := x1.below hb2 (by omega)
          dsimp only
          clear hown2 hb2 k0 k1 x1
          have k0 := x2.cell 0
          have k1 := x2.cell 1
          simp at k0 k1
          go_wp2_with fail
          refine (runSplice_any A A2 c d w.heap.size w.heap.size l m f t HF.out HF2.out hlen hlen2 w2 (by omega) (by omega) (h.below b2) (hh.below b2)).mono ?_
          rw [HE2.out]
          rintro e w3 ⟨AX, cX, rfl, hown3, hb3⟩
          have b3 := b2.trans (hb3.mono (by omega))
          dsimp only
          clear hown3 hb3 k0 k1 x2
          go_wp2
          go_ret
          exact ⟨rfl, b3⟩
        · go_enter Try.func10, Try.ntmps10
          go_wp2_with fail
          refine (runsAlive_any _).mono ?_
          rintro e w1 ⟨rfl, hb1⟩
          have z1 : w.heap.size + 1 ≤ w1.heap.size := by have := hb1.size; rw [SX.out] at this; exact this
          have b1 := B0.out.trans (hb1.mono (by rw [SX.out]; omega))
          have x1 := BX.out.below hb1 (by rw [SX.out]; omega)
          have k0 := x1.cell 0
          have k1 := x1.cell 1
          simp at k0 k1
          clear hb1 BX SX B0
          go_wp2_with fail
          refine (runSlice_any A c w.heap.size l f t HF.out hlen w1 (by omega) (h.below b1)).mono ?_
          rw [HE1.out]
          rintro e w2 ⟨AO, cO, rfl, hown2, hb2⟩
          have z2 := hb2.size
          have b2 := b1.trans (hb2.mono (by omega))
          have x2 := x1.below hb2 (by omega)
          dsimp only
          clear hown2 hb2 k0 k1 x1
          have k0 := x2.cell 0
          have k1 := x2.cell 1
          simp at k0 k1
          go_wp2_with fail
          refine (runSplice_any A A2 c d w.heap.size w.heap.size l m f t HF.out HF2.out hlen hlen2 w2 (by omega) (by omega) (h.below b2) (hh.below b2)).mono ?_
          rw [HE2.out]
          rintro e w3 ⟨AX, cX, rfl, hown3, hb3⟩
          have b3 := b2.trans (hb3.mono (by omega))
          dsimp only
          clear hown3 hb3 k0 k1 x2
          go_wp2
          go_ret
          exact ⟨rfl, b3⟩


theorem own : ownKnob Try.prog.godebug = none := by kernel_rfl
theorem laidOut : laidOutB Try.prog = true := by kernel_rfl
theorem readable0 : Try.prog.readableRec 22 = true ∧ 22 < Try.prog.types.size := ⟨by kernel_rfl, of_decide_eq_true (by kernel_rfl)⟩
theorem readable1 : Try.prog.readableRec 43 = true ∧ 43 < Try.prog.types.size := ⟨by kernel_rfl, of_decide_eq_true (by kernel_rfl)⟩
theorem readable : ∀ t ∈ Try.f10.params.toList, Try.prog.readableRec t = true ∧ t < Try.prog.types.size := by
  rw [Try.params10]
  intro t ht
  have ht' : t = 22 ∨ t = 43 ∨ t = 22 := by simpa using ht
  rcases ht' with rfl | rfl | rfl
  · exact readable0
  · exact readable1
  · exact readable0

theorem contract (H : Type) (enc : TypeId × Value → H) (W : World) (base : Nat) (args : Array Value) (ds gs : List (DataW H)) (before : List MemPlace)
    (hval : ∀ (j : Nat) t v, Try.f10.params[j]? = some t → args[j]? = some v → Value.okWide Try.prog W .any base t v)
    (hW : DataW.Whole enc Try.prog Try.f10.params.toList Rows.runsUndoneSpec.vars false W args.toList ds gs before) :
    Calls Try.prog 10 args W fun e W' => ∃ v, e = .returned v ∧ Rows.runsUndoneSpec.post enc Try.prog Try.f10 false true false false W args v W' := by
  have hW' := hW
  have hlt := hW.lt
  obtain ⟨p, q, hA0, hV, rfl, hfz, hnd⟩ := hW
  have hA : DataW.TrodAll enc Try.prog W 0 (fun _ => true) true Try.f10.params.toList args.toList ds p := hA0
  rw [Try.params10] at hA hval
  obtain ⟨v0, vs0, d0, ds0, p0, q0, hargs0, rfl, rfl, h0, r0⟩ := trodAll_cons hA
  obtain ⟨v1, vs1, d1, ds1, p1, q1, hargs1, rfl, rfl, h1, r1⟩ := trodAll_cons r0
  subst hargs1
  obtain ⟨v2, vs2, d2, ds2, p2, q2, hargs2, rfl, rfl, h2, r2⟩ := trodAll_cons r1
  subst hargs2
  obtain ⟨rfl, rfl, rfl⟩ := trodAll_nil r2
  obtain rfl : args = #[v0, v1, v2] := by cases args; simp_all
  obtain ⟨rfl, rfl⟩ := trodVars_none hV
  obtain ⟨A0, c0, x0, rfl, l0, b0, y0⟩ := open_runs (hval 0 22 v0 rfl rfl) h0
  obtain ⟨x1, z1, rfl, b1, e1⟩ := open_pair (hval 1 43 v1 rfl rfl) h1
  obtain ⟨A2, c2, x2, rfl, l2, b2, y2⟩ := open_runs (hval 2 22 v2 rfl rfl) h2
  clear hA0 hA hval r0 r1 r2
  refine (walk W A0 c0 x0 l0 b0 y0 x1 z1 b1 e1 A2 c2 x2 l2 b2 y2).mono fun e W' ⟨he, hbl⟩ => ?_
  subst he
  exact ⟨_, rfl, law_post laidOut rfl readable (fun _ _ _ => trodAll_mk1 (shut_bool Try.underlying4 _)) rfl rfl hW' hbl⟩

set_option maxRecDepth 100000 in
theorem lifted (os : Os) (started : os.Started) (H : Type) (enc : TypeId × Value → H) :
    ReturnsInHanded {} Try.checked os 10 .any (Rows.runsUndoneSpec.pre6 enc Try.prog Try.f10 Rows.runsUndoneRow.domain false) (Rows.runsUndoneSpec.post enc Try.prog Try.f10 false true false false) := by
  refine returnsInHanded_of_change (C := Try.checked) own started (by kernel_rfl) Try.func10
    (ChangeSpec.witness6 (enc := enc) (C := Try.checked) false ⟨#[], #[.slice none 0 0, .agg #[.int .i64 0, .int .i64 0], .slice none 0 0], []⟩ 8 (by kernel_rfl) (by kernel_rfl) (by kernel_rfl) (by kernel_rfl)) ?_
  intro W base args ds gs before hval hW _ _
  exact contract H enc W base args ds gs before hval hW

theorem proved : Rows.RunsUndoneSaid :=
  OpenClaim.holds_of_wide 10 Try.f10 rfl rfl rfl rfl rfl rfl rfl ⟨rfl, rfl, rfl, rfl, rfl⟩ rfl rfl rfl rfl rfl (by kernel_rfl) Try.func10 (by kernel_rfl)
    (of_decide_eq_true (by kernel_rfl)) (by unfold Func.isWrapper; first | (rw [if_pos (by decide +kernel)]; kernel_rfl) | (rw [if_neg (by decide +kernel)]; exact ⟨rfl, rfl⟩))
    (fun os started H enc _ => lifted os started H enc)
end Go.Proofs.Ythdflibljngjiaa.runsUndone

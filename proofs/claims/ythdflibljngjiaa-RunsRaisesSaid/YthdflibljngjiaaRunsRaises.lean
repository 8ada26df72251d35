/-
  For any list, any two places and any label: the bytes between, raised by it, are the document's, or refused.
  No condition.
-/
import Derived.Test.YthdflibljngjiaaRunAlive
import Derived.Test.YthdflibljngjiaaRunOpen
import Derived.Test.YthdflibljngjiaaPairOpen
namespace Go.Proofs.Ythdflibljngjiaa.runsRaises
open Go.ChangeShapes Go.WideShapes Go.ChangeAt Go.RowKit

set_option maxHeartbeats 1000000 in
theorem walk (w : World) (A : Option Addr) (c : Nat) (l : List RunP) (hlen : l.length ≤ maxLen) (hf : Fits l) (h : Row w w.heap.size A (flatR l)) (f t : Int) (_hf : -9223372036854775808 ≤ f ∧ f ≤ 9223372036854775807) (_ht : -9223372036854775808 ≤ t ∧ t ≤ 9223372036854775807) (y : Nat) (hy : y < 18446744073709551616) :
    Calls Try.prog 8 #[.slice A l.length c, .agg #[.int .i64 f, .int .i64 t], .int .u64 y] w fun e w' => e = .returned (.bool true) ∧ Below w.heap.size w w' := by
  have HF := Lib.hid hf
  clear hf
  have BX := Lib.hid (Blk.new w 43 #[.int .i64 f, .int .i64 t])
  have SX : Hid ((w.alloc (.cells #[.int .i64 f, .int .i64 t] 43)).heap.size = w.heap.size + 1) := by show _ = _; simp
  have B0 : Hid (Below w.heap.size w (w.alloc (.cells #[.int .i64 f, .int .i64 t] 43))) := (Below.refl _ w).alloc (Nat.le_refl _) _
  by_cases hmostl : 5000 < l.length
  · go_enter Try.func8, Try.ntmps8
    go_wp2_with (go_at_call 11; refine (runsAlive_any _).mono ?_; rintro e w1 ⟨rfl, hb1⟩)
    go_ret
    exact ⟨rfl, B0.out.trans (hb1.mono (by rw [SX.out]; omega))⟩
  · skip
    have HL := Lib.hid (raiseOf_len l f t y)
    obtain ⟨p, hp⟩ : ∃ p, raiseOf l f t y = p := ⟨_, rfl⟩
    rw [hp] at HL
    have HP := Lib.hid hp
    clear hp
    go_enter Try.func8, Try.ntmps8
    go_wp2_with fail
    refine (runsAlive_any _).mono ?_
    rintro e w1 ⟨rfl, hb1⟩
    have z1 : w.heap.size + 1 ≤ w1.heap.size := by have := hb1.size; rw [SX.out] at this; exact this
    have b1 := B0.out.trans (hb1.mono (by rw [SX.out]; omega))
    have x1 := BX.out.below hb1 (by rw [SX.out]; omega)
    have k0 := x1.cell 0
    have k1 := x1.cell 1
    simp at k0 k1
    clear hb1
    go_wp2_with fail
    refine (runRaise_any A c w.heap.size l f t y hy HF.out hlen w1 (by omega) (h.below b1)).mono ?_
    rw [HP.out]
    rintro e w2 ⟨A2x, c2x, rfl, hown2, hb2⟩
    have z2 := hb2.size
    have b2 := b1.trans (hb2.mono (by omega))
    have r2 := Row.of_own hown2
    have x2 := x1.below hb2 (by omega)
    clear k0 k1
    have k0 := x2.cell 0
    have k1 := x2.cell 1
    simp at k0 k1
    clear hown2 hb2
    go_wp2_with fail
    refine (refRaise_any A c w.heap.size l f t y hy HF.out hlen w2 (by omega) (h.below b2)).mono ?_
    rw [HP.out]
    rintro e w3 ⟨A3x, c3x, rfl, hown3, hb3⟩
    have z3 := hb3.size
    have b3 := b2.trans (hb3.mono (by omega))
    have r3 := Row.of_own hown3
    have r23 := r2.below hb3
    clear k0 k1 x1 x2
    clear hown3 hb3 r2
    go_wp2_with (go_at_call 14; refine (refSame_any A2x A3x c2x c3x w2.heap.size w3.heap.size p.1 p.1 HL.out HL.out w3 z3 (Nat.le_refl _) r23 r3).mono ?_; rintro e w4 ⟨rfl, hb4⟩; rw [decide_eq_true rfl])
    go_ret
    exact ⟨rfl, b3.trans (hb4.mono (by omega))⟩


theorem own : ownKnob Try.prog.godebug = none := by kernel_rfl
theorem laidOut : laidOutB Try.prog = true := by kernel_rfl
theorem readable0 : Try.prog.readableRec 22 = true ∧ 22 < Try.prog.types.size := ⟨by kernel_rfl, of_decide_eq_true (by kernel_rfl)⟩
theorem readable1 : Try.prog.readableRec 43 = true ∧ 43 < Try.prog.types.size := ⟨by kernel_rfl, of_decide_eq_true (by kernel_rfl)⟩
theorem readable2 : Try.prog.readableRec 33 = true ∧ 33 < Try.prog.types.size := ⟨by kernel_rfl, of_decide_eq_true (by kernel_rfl)⟩
theorem readable : ∀ t ∈ Try.f8.params.toList, Try.prog.readableRec t = true ∧ t < Try.prog.types.size := by
  rw [Try.params8]
  intro t ht
  have ht' : t = 22 ∨ t = 43 ∨ t = 33 := by simpa using ht
  rcases ht' with rfl | rfl | rfl
  · exact readable0
  · exact readable1
  · exact readable2

theorem contract (H : Type) (enc : TypeId × Value → H) (W : World) (base : Nat) (args : Array Value) (ds gs : List (DataW H)) (before : List MemPlace)
    (hval : ∀ (j : Nat) t v, Try.f8.params[j]? = some t → args[j]? = some v → Value.okWide Try.prog W .any base t v)
    (hW : DataW.Whole enc Try.prog Try.f8.params.toList Rows.runsRaisesSpec.vars false W args.toList ds gs before) :
    Calls Try.prog 8 args W fun e W' => ∃ v, e = .returned v ∧ Rows.runsRaisesSpec.post enc Try.prog Try.f8 false true false false W args v W' := by
  have hW' := hW
  have hlt := hW.lt
  obtain ⟨p, q, hA0, hV, rfl, hfz, hnd⟩ := hW
  have hA : DataW.TrodAll enc Try.prog W 0 (fun _ => true) true Try.f8.params.toList args.toList ds p := hA0
  rw [Try.params8] at hA hval
  obtain ⟨v0, vs0, d0, ds0, p0, q0, hargs0, rfl, rfl, h0, r0⟩ := trodAll_cons hA
  obtain ⟨v1, vs1, d1, ds1, p1, q1, hargs1, rfl, rfl, h1, r1⟩ := trodAll_cons r0
  subst hargs1
  obtain ⟨v2, vs2, d2, ds2, p2, q2, hargs2, rfl, rfl, h2, r2⟩ := trodAll_cons r1
  subst hargs2
  obtain ⟨rfl, rfl, rfl⟩ := trodAll_nil r2
  obtain rfl : args = #[v0, v1, v2] := by cases args; simp_all
  obtain ⟨rfl, rfl⟩ := trodVars_none hV
  obtain ⟨A0, c0, x0, rfl, l0, b0, y0⟩ := open_runs (hval 0 22 v0 rfl rfl) h0
  obtain ⟨x1, z1, rfl, b1, e1⟩ := open_pair (hval 1 43 v1 rfl rfl) h1
  obtain ⟨x2, rfl, rfl, rfl, w2⟩ := open_int Try.underlying33 (hval 2 33 v2 rfl rfl) h2
  obtain ⟨x2, rfl, b2⟩ := nat_u64 w2
  clear hA0 hA hval r0 r1 r2
  refine (walk W A0 c0 x0 l0 b0 y0 x1 z1 b1 e1 x2 b2).mono fun e W' ⟨he, hbl⟩ => ?_
  subst he
  exact ⟨_, rfl, law_post laidOut rfl readable (fun _ _ _ => trodAll_mk1 (shut_bool Try.underlying4 _)) rfl rfl hW' hbl⟩

set_option maxRecDepth 100000 in
theorem lifted (os : Os) (started : os.Started) (H : Type) (enc : TypeId × Value → H) :
    ReturnsInHanded {} Try.checked os 8 .any (Rows.runsRaisesSpec.pre6 enc Try.prog Try.f8 Rows.runsRaisesRow.domain false) (Rows.runsRaisesSpec.post enc Try.prog Try.f8 false true false false) := by
  refine returnsInHanded_of_change (C := Try.checked) own started (by kernel_rfl) Try.func8
    (ChangeSpec.witness6 (enc := enc) (C := Try.checked) false ⟨#[], #[.slice none 0 0, .agg #[.int .i64 0, .int .i64 0], .int .u64 0], []⟩ 8 (by kernel_rfl) (by kernel_rfl) (by kernel_rfl) (by kernel_rfl)) ?_
  intro W base args ds gs before hval hW _ _
  exact contract H enc W base args ds gs before hval hW

theorem proved : Rows.RunsRaisesSaid :=
  OpenClaim.holds_of_wide 8 Try.f8 rfl rfl rfl rfl rfl rfl rfl ⟨rfl, rfl, rfl, rfl, rfl⟩ rfl rfl rfl rfl rfl (by kernel_rfl) Try.func8 (by kernel_rfl)
    (of_decide_eq_true (by kernel_rfl)) (by unfold Func.isWrapper; first | (rw [if_pos (by decide +kernel)]; kernel_rfl) | (rw [if_neg (by decide +kernel)]; exact ⟨rfl, rfl⟩))
    (fun os started H enc _ => lifted os started H enc)
end Go.Proofs.Ythdflibljngjiaa.runsRaises

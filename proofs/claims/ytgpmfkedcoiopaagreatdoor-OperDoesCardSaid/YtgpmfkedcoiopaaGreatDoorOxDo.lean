/-
  The landed Do: an operator on a range: layer 14.
-/
import Derived.Test.YtgpmfkedcoiopaaGreatDoorM14h
namespace Go.Proofs.YtgpmfkedcoiopaaGreatDoor
open Go.RowKit
set_option maxRecDepth 100000

/-- what is kept in Do, Swap, Put behind look -/
structure DoK (w wr : World) (gs gr : Nat) (A : Option Addr) (c : Nat) (S : List UInt8) (l : List RunP) (y : Nat) (V : List UInt8) (gx Tx : Nat) (cx : Array Value) : Prop where
  si : Blk wr gs 89 #[.string ⟨S.toArray⟩, .slice A l.length c, .int .u64 (y : Nat), .string ⟨V.toArray⟩]
  res : Blk wr gr 43 #[.int .i64 0, .string ⟨#[]⟩, .slice none 0 0, .string ⟨#[]⟩, .slice none 0 0, .string ⟨#[]⟩, .slice none 0 0, .bool false, .bool false, .int .i64 0]
  oth : Blk wr gx Tx cx
  bel : Below w.heap.size w wr
  tS : Txu wr A S l
section
variable {w wr w' : World} {gs gr : Nat} {A : Option Addr} {c : Nat} {S : List UInt8} {l : List RunP} {y : Nat} {V : List UInt8} {gx Tx : Nat} {cx : Array Value}
theorem DoK.step (h : DoK w wr gs gr A c S l y V gx Tx cx) (hb : Below wr.heap.size wr w') : DoK w w' gs gr A c S l y V gx Tx cx :=
  ⟨h.si.below hb h.si.lt, h.res.below hb h.res.lt, h.oth.below hb h.oth.lt, h.bel.trans (hb.mono h.bel.size), grow_txu h.tS _ hb⟩
end
set_option maxHeartbeats 16000000 in
theorem oxDo_any (A : Option Addr) (c : Nat) (S : List UInt8) (l : List RunP) (y : Nat) (hy : y < 18446744073709551616) (op f t : Int) (hop : -2147483648 ≤ op ∧ op ≤ 2147483647) (_hf : -9223372036854775808 ≤ f ∧ f ≤ 9223372036854775807) (_ht : -9223372036854775808 ≤ t ∧ t ≤ 9223372036854775807) (b : Bool) (w : World) (h : Txu w A S l) :
    Calls Tryz.prog 16 #[.agg #[.string ⟨S.toArray⟩, .slice A l.length c], .int .u64 (y : Nat), .int .i32 op, .agg #[.int .i64 f, .int .i64 t, .bool b]] w (GivesO w (doM S l y op f t b)) := by
  obtain ⟨v, hv⟩ : ∃ v, doM S l y op f t b = v := ⟨_, rfl⟩
  rw [hv]
  have hbad := do_bad (S := S) (l := l) (y := y) (f := f) (t := t) (b := b)
  obtain ⟨V, hV⟩ : ∃ V, (viewOf S l y).1 = V := ⟨_, rfl⟩
  obtain ⟨n, hn⟩ : ∃ n, (viewOf S l y).2 = n := ⟨_, rfl⟩
  have HLK := Lib.hid (fun wx (hx : Txu wx A S l) => oxLook_any A c S l y hy wx hx)
  rw [hV, hn] at HLK
  rw [hV, hn] at hbad
  have hvl := view_len S l y
  rw [hV] at hvl
  have bx := (boxesE3 w 32 25 43 #[.string ⟨S.toArray⟩, .slice A l.length c] #[.int .i64 f, .int .i64 t, .bool b] #[.int .i64 0, .string ⟨#[]⟩, .slice none 0 0, .string ⟨#[]⟩, .slice none 0 0, .string ⟨#[]⟩, .slice none 0 0, .bool false, .bool false, .int .i64 0]).now
  have BX := Lib.hid bx
  have TX := Lib.hid (grow_txu h _ bx.2.2.2)
  clear h bx
  by_cases hn0 : n = 0
  · subst hn0
    obtain ⟨hg, hVS, hvw⟩ := view_facts hn
    rw [hV] at hVS hvw
    have HH := Lib.hid (fun wx => oxHas_any V (by omega) f t b wx)
    cases hr : rightM V f t b with
    | false =>
      have HV : Hid ((out0, 2) = v) := (hbad (.inr hr) op).symm.trans hv
      rw [hr] at HH
      clear hbad hv hr hn hV hvw hVS hg hvl
      go_enter Tryz.func16, Tryz.ntmps16
      go_upto_region 1 with fail
      generalize ((w.alloc (.cells #[.string ⟨S.toArray⟩, .slice A l.length c] 32)).alloc (.cells #[.int .i64 f, .int .i64 t, .bool b] 25)).alloc (.cells #[.int .i64 0, .string ⟨#[]⟩, .slice none 0 0, .string ⟨#[]⟩, .slice none 0 0, .string ⟨#[]⟩, .slice none 0 0, .bool false, .bool false, .int .i64 0] 43) = wx at *
      obtain ⟨z0, z1⟩ := txt_cells BX.out.1
      go_upto_region 2 with (go_at_call 46; refine (HLK.out _ TX.out).mono ?_; rintro e w2 ⟨A2, c2, rfl, tS, bb⟩; have K2 : Hid (DoK w (w2.alloc (.cells #[.string ⟨S.toArray⟩, .slice A2 l.length c2, .int .u64 (y : Nat), .string ⟨V.toArray⟩] 89)) w2.heap.size (w.heap.size + 1 + 1) A2 c2 S l y V (w.heap.size + 1) 25 #[.int .i64 f, .int .i64 t, .bool b]) := ⟨Blk.new w2 _ _, (BX.out.2.2.1.below bb BX.out.2.2.1.lt).alloc _, (BX.out.2.1.below bb BX.out.2.1.lt).alloc _, (BX.out.2.2.2.trans (bb.mono BX.out.2.2.2.size)).alloc (BX.out.2.2.2.trans (bb.mono BX.out.2.2.2.size)).size _, grow_txu tS _ ((Below.refl _ _).alloc (Nat.le_refl _) _)⟩; have N2 : Hid (w.heap.size + 1 + 1 < w2.heap.size) := Nat.lt_of_lt_of_le BX.out.2.2.1.lt bb.size; clear tS bb z0 z1)
      generalize hg10 : w2.heap.size = g10 at *
      generalize w2.alloc (.cells #[.string ⟨S.toArray⟩, .slice A2 l.length c2, .int .u64 (y : Nat), .string ⟨V.toArray⟩] 89) = w3 at *
      clear hg10 BX TX HLK
      obtain ⟨⟨y0, y1, y2, y3⟩, _⟩ := si_cells K2.out.si
      obtain ⟨⟨u0, u1, u2, _⟩, _⟩ := rng_var K2.out.oth
      go_upto_region 3 with (go_at_call 47; refine (HH.out _).mono ?_; rintro e w4 ⟨rfl, bb⟩; have K4 := Lib.hid (K2.out.step bb); clear bb)
      obtain ⟨⟨r0, r1, r2, r3, r4, r5, r6, r7, r8, r9⟩, t0, t1, t2, t3, t4, t5, t6, t7, t8, t9⟩ := out_cells K4.out.res
      go_wp2_with fail
      exact end_zero rfl _ K4.out.res noLab_out K4.out.bel (by omega) rfl rfl rfl HV.out (fun _ _ h => h)
    | true =>
      rw [hr] at HH
      obtain ⟨f0, f1, f2, ⟨F, E, hp, hFE, hE⟩, ⟨a, e, hl, hae, he⟩⟩ := right_facts hr hvl
      have hcl := countL_le V
      have hdo := do_of hV hn hr op
      have HBY := Lib.hid (fun wx => oxBytes_any V (by omega) f t b wx)
      have HLI := Lib.hid (fun wx => oxLines_any V (by omega) f t b f0 f1 f2 wx)
      rw [hp] at HBY
      rw [hl] at HLI
      have PY := Lib.hid (take_y (S := S) (l := l) (y := y) hp)
      have PC := Lib.hid (fun op hop => take_c (S := S) (l := l) (y := y) hg hVS hp hFE hE op hop)
      have PS := Lib.hid (fun op (hop : op = 62 ∨ op = 60) => shift_is (S := S) (l := l) (y := y) hg hVS hl hae he hop)
      have PJ := Lib.hid (join_is (S := S) (l := l) (y := y) hg hVS hl hae)
      have PT : Hid (toggledM S l V y f t b = if (turnedM S l y (F : Nat) (E : Nat) (togL S V F E) (cutOf S l (F : Nat) (E : Nat)).1.2 true).2 = 0 then (⟨(turnedM S l y (F : Nat) (E : Nat) (togL S V F E) (cutOf S l (F : Nat) (E : Nat)).1.2 true).1.1, [], [], false, false, (F : Nat)⟩, 0) else (out0, (turnedM S l y (F : Nat) (E : Nat) (togL S V F E) (cutOf S l (F : Nat) (E : Nat)).1.2 true).2)) := by
        show _ = _
        unfold toggledM
        dsimp only
        rw [hp]
        simp only [Int.toNat_natCast]
      have HYA := Lib.hid (fun A2 c2 wx (hx : Txu wx A2 S l) => oxYank_any A2 c2 S l y V F E hFE hE hvl b wx hx)
      have HTA := Lib.hid (fun A2 c2 o wx (hx : Txu wx A2 S l) B0 b0 C0 c0 D0 d0 => oxTake_any A2 B0 C0 D0 c2 b0 c0 d0 S l y hy V F E o wx hx)
      have HTU := Lib.hid (fun A2 c2 wx (hx : Txu wx A2 S l) => oxTurn_any A2 c2 S l y hy V hg hVS hvw F E hFE hE hvl wx hx)
      have HSH := Lib.hid (fun op hop A2 c2 wx (hx : Txu wx A2 S l) => oxShift_any A2 c2 S l y hy V hg hVS op hop a e (by omega) hae (by omega) wx hx)
      have HJO := Lib.hid (fun A2 c2 wx (hx : Txu wx A2 S l) => oxJoin_any A2 c2 S l y hy V hg hVS a (max e (a + 1)) (by omega) (by omega) (by omega) wx hx)
      have HRF := Lib.hid (fun A2 c2 wx (hx : Txu wx A2 S l) => oxRemoveF_any A2 c2 S l y hy V F E hFE hE hvl f t wx hx)
      have HRL := Lib.hid (fun (hbt : b = true) A2 c2 wx (hx : Txu wx A2 S l) => oxRemoveL_any A2 c2 S l y hy V hg hVS F E hFE hE hvl f t (by
        rw [hbt] at hr
        unfold rightM at hr
        rw [if_pos rfl] at hr
        exact of_decide_eq_true hr) wx hx)
      have PD := Lib.hid (fun (hbt : b = true) => (by subst hbt; exact take_d (S := S) (l := l) (y := y) hp : takenM S l V y 100 f t b = (remL S l V y F E f t, 0)))
      rw [hdo] at hv
      have HV := Lib.hid hv
      have hce : e ≤ 4097 := by omega
      have hca : a ≤ 4097 := by omega
      clear hbad hv hn hV hvw hVS hg hvl hdo hp hl he hcl f0 f1 f2 hr hFE hE
      go_enter Tryz.func16, Tryz.ntmps16
      go_upto_region 1 with fail
      generalize ((w.alloc (.cells #[.string ⟨S.toArray⟩, .slice A l.length c] 32)).alloc (.cells #[.int .i64 f, .int .i64 t, .bool b] 25)).alloc (.cells #[.int .i64 0, .string ⟨#[]⟩, .slice none 0 0, .string ⟨#[]⟩, .slice none 0 0, .string ⟨#[]⟩, .slice none 0 0, .bool false, .bool false, .int .i64 0] 43) = wx at *
      obtain ⟨z0, z1⟩ := txt_cells BX.out.1
      go_upto_region 2 with (go_at_call 46; refine (HLK.out _ TX.out).mono ?_; rintro e w2 ⟨A2, c2, rfl, tS, bb⟩; have K2 : Hid (DoK w (w2.alloc (.cells #[.string ⟨S.toArray⟩, .slice A2 l.length c2, .int .u64 (y : Nat), .string ⟨V.toArray⟩] 89)) w2.heap.size (w.heap.size + 1 + 1) A2 c2 S l y V (w.heap.size + 1) 25 #[.int .i64 f, .int .i64 t, .bool b]) := ⟨Blk.new w2 _ _, (BX.out.2.2.1.below bb BX.out.2.2.1.lt).alloc _, (BX.out.2.1.below bb BX.out.2.1.lt).alloc _, (BX.out.2.2.2.trans (bb.mono BX.out.2.2.2.size)).alloc (BX.out.2.2.2.trans (bb.mono BX.out.2.2.2.size)).size _, grow_txu tS _ ((Below.refl _ _).alloc (Nat.le_refl _) _)⟩; have N2 : Hid (w.heap.size + 1 + 1 < w2.heap.size) := Nat.lt_of_lt_of_le BX.out.2.2.1.lt bb.size; clear tS bb z0 z1)
      generalize hg10 : w2.heap.size = g10 at *
      generalize w2.alloc (.cells #[.string ⟨S.toArray⟩, .slice A2 l.length c2, .int .u64 (y : Nat), .string ⟨V.toArray⟩] 89) = w3 at *
      clear hg10 BX TX HLK
      obtain ⟨⟨y0, y1, y2, y3⟩, _⟩ := si_cells K2.out.si
      obtain ⟨⟨u0, u1, u2, _⟩, _⟩ := rng_var K2.out.oth
      go_upto_region 6 with (first
        | (go_at_call 47; refine (HH.out _).mono ?_; rintro e w4 ⟨rfl, bb⟩; have K4 := Lib.hid (K2.out.step bb); clear bb y0 y1 y2 y3 u0 u1 u2; obtain ⟨⟨y0, y1, y2, y3⟩, _⟩ := si_cells K4.out.si; obtain ⟨⟨u0, u1, u2, _⟩, _⟩ := rng_var K4.out.oth)
        | (go_at_call 48; refine (HBY.out _).mono ?_; rintro e w5 ⟨rfl, bb⟩; have K5 := Lib.hid (K4.out.step bb); clear bb y0 y1 y2 y3 u0 u1 u2; obtain ⟨⟨y0, y1, y2, y3⟩, _⟩ := si_cells K5.out.si; obtain ⟨⟨u0, u1, u2, _⟩, _⟩ := rng_var K5.out.oth)
        | (go_at_call 49; refine (HLI.out _).mono ?_; rintro e w6 ⟨rfl, bb⟩; have K6 := Lib.hid (K5.out.step bb); clear bb y0 y1 y2 y3 u0 u1 u2; obtain ⟨⟨y0, y1, y2, y3⟩, _⟩ := si_cells K6.out.si; obtain ⟨⟨u0, u1, u2, _⟩, _⟩ := rng_var K6.out.oth))
      clear K2 K4 K5 HH HBY HLI
      by_cases h121 : op = 121
      · subst h121
        have HV2 : Hid ((yankM S l V F E b, 0) = v) := by show _ = _; rw [← PY.out]; exact ((if_pos (by decide)).symm.trans HV.out)
        go_wp2_with (go_at_call 50; refine (HYA.out _ _ _ K6.out.tS).mono ?_; rintro e w7 ⟨A7, c7, B7, d7, C7, e7, rfl, rA, rB, rC, bb⟩; have K7 := Lib.hid (K6.out.step bb); obtain ⟨⟨r0, r1, r2, r3, r4, r5, r6, r7, r8, r9⟩, t0, t1, t2, t3, t4, t5, t6, t7, t8, t9⟩ := out_cells K7.out.res)
        exact end_out rfl _ K7.out.res noLab_out K7.out.bel (by omega) rA rB rC rfl rfl rfl HV2.out (fun _ _ h => h)
      have e121 : (op == 121) = false := by rw [beq_eq_false_iff_ne]; exact h121
      by_cases h100 : op = 100
      · subst h100
        go_upto_region 10 with fail
        cases b with
        | true =>
          have HV2 : Hid ((remL S l V y F E f t, 0) = v) := by show _ = _; rw [← PD.out rfl]; exact ((if_pos (by decide)).symm.trans HV.out)
          have HR := Lib.hid (HRL.out rfl)
          go_wp2_with (go_at_call 51; refine (HR.out _ _ _ K6.out.tS).mono ?_; rw [HV2.out]; rintro e w7 ⟨A7, c7, B7, d7, C7, e7, rfl, rA, rB, rC, bb⟩; have K7 := Lib.hid (K6.out.step bb); obtain ⟨⟨r0, r1, r2, r3, r4, r5, r6, r7, r8, r9⟩, t0, t1, t2, t3, t4, t5, t6, t7, t8, t9⟩ := out_cells K7.out.res)
          exact end_out rfl _ K7.out.res noLab_out K7.out.bel (by omega) rA rB rC rfl rfl rfl rfl (fun _ _ h => h)
        | false =>
          have HV2 : Hid (takM S l y F E (yankM S l V F E false) = v) := by show _ = _; rw [← PC.out 100 (.inr ⟨rfl, rfl⟩)]; exact ((if_pos (by decide)).symm.trans HV.out)
          go_wp2_with (go_at_call 51; refine (HRF.out _ _ _ K6.out.tS).mono ?_; rw [HV2.out]; rintro e w7 ⟨A7, c7, B7, d7, C7, e7, rfl, rA, rB, rC, bb⟩; have K7 := Lib.hid (K6.out.step bb); obtain ⟨⟨r0, r1, r2, r3, r4, r5, r6, r7, r8, r9⟩, t0, t1, t2, t3, t4, t5, t6, t7, t8, t9⟩ := out_cells K7.out.res)
          exact end_out rfl _ K7.out.res noLab_out K7.out.bel (by omega) rA rB rC rfl rfl rfl rfl (fun _ _ h => h)
      have e100 : (op == 100) = false := by rw [beq_eq_false_iff_ne]; exact h100
      by_cases h99 : op = 99
      · subst h99
        have HV2 : Hid (takM S l y F E (yankM S l V F E b) = v) := by show _ = _; rw [← PC.out 99 (.inl rfl)]; exact ((if_pos (by decide)).symm.trans HV.out)
        go_upto_region 12 with fail
        have hb0 : Below w6.heap.size w6 w6 := Below.refl _ _
        have hbz : Below w6.heap.size w6 w6.drew := below_drewN hb0 1
        have KS : Hid (∀ w', Below w6.heap.size w6 w' → ((w'.cell? ⟨g10, 0, none⟩ = some (.string ⟨S.toArray⟩) ∧ w'.cell? ⟨g10, 1, none⟩ = some (.slice A2 l.length c2) ∧ w'.cell? ⟨g10, 2, none⟩ = some (.int .u64 (y : Nat)) ∧ w'.cell? ⟨g10, 3, none⟩ = some (.string ⟨V.toArray⟩)) ∧ w'.cell? ⟨w.heap.size + 1, 2, none⟩ = some (.bool b))) := fun w' hb => ⟨(si_cells (K6.out.step hb).si).1, (rng_var (K6.out.step hb).oth).1.2.2.1⟩
        generalize hyk : yankM S l V F E b = yk at *
        refine wp_region_held_drew (S := fun w' => ((w'.cell? ⟨g10, 0, none⟩ = some (.string ⟨S.toArray⟩) ∧ w'.cell? ⟨g10, 1, none⟩ = some (.slice A2 l.length c2) ∧ w'.cell? ⟨g10, 2, none⟩ = some (.int .u64 (y : Nat)) ∧ w'.cell? ⟨g10, 3, none⟩ = some (.string ⟨V.toArray⟩)) ∧ w'.cell? ⟨w.heap.size + 1, 2, none⟩ = some (.bool b))) (by kernel_rfl) (KS.out _ hbz) (fun hHeld => ?_)
        refine wpAnyH_take (i := 0) (v := ?_) rfl (by kernel_rfl) (by kernel_rfl) (by kernel_rfl) (fun _ _ _ h => h) (Or.inl ⟨by rfl, ?_⟩) (by assumption) ?_
        rotate_left
        · (intro w hSw; obtain ⟨⟨q0, q1, q2, q3⟩, q4⟩ := hSw; go_simp; (try with_reducible rfl))
        (try simp only [List.getElem_toArray, List.getElem_cons_zero, Act.put, List.setIfInBounds_toArray, List.set_cons_zero, List.set_cons_succ])
        refine wpAnyH_take (i := 1) (v := ?_) rfl (by kernel_rfl) (by kernel_rfl) (by kernel_rfl) (fun _ _ _ h => h) (Or.inl ⟨by rfl, ?_⟩) (by assumption) ?_
        rotate_left
        · (intro w hSw; obtain ⟨⟨q0, q1, q2, q3⟩, q4⟩ := hSw; go_simp; (try with_reducible rfl))
        (try simp only [List.getElem_toArray, List.getElem_cons_zero, List.getElem_cons_succ, Act.put, List.setIfInBounds_toArray, List.set_cons_zero, List.set_cons_succ])
        refine wpAnyH_take (i := 2) (v := ?_) rfl (by kernel_rfl) (by kernel_rfl) (by kernel_rfl) (fun _ _ _ h => h) (Or.inl ⟨by rfl, ?_⟩) (by assumption) ?_
        rotate_left
        · (intro w hSw; obtain ⟨⟨q0, q1, q2, q3⟩, q4⟩ := hSw; go_simp; (try with_reducible rfl))
        (try simp only [List.getElem_toArray, List.getElem_cons_zero, List.getElem_cons_succ, Act.put, List.setIfInBounds_toArray, List.set_cons_zero, List.set_cons_succ])
        refine wpAnyH_take (i := 3) (v := ?_) rfl (by kernel_rfl) (by kernel_rfl) (by kernel_rfl) (fun _ _ _ h => h) (Or.inl ⟨by rfl, ?_⟩) (by assumption) ?_
        rotate_left
        · (intro w hSw; obtain ⟨⟨q0, q1, q2, q3⟩, q4⟩ := hSw; go_simp; (try with_reducible rfl))
        (try simp only [List.getElem_toArray, List.getElem_cons_zero, List.getElem_cons_succ, Act.put, List.setIfInBounds_toArray, List.set_cons_zero, List.set_cons_succ])
        refine wpAnyH_take (i := 4) (v := ?_) rfl (by kernel_rfl) (by kernel_rfl) (by kernel_rfl) (fun _ _ _ h => h) (Or.inl ⟨by rfl, ?_⟩) (by assumption) ?_
        rotate_left
        · (intro w hSw; obtain ⟨⟨q0, q1, q2, q3⟩, q4⟩ := hSw; go_simp; (try with_reducible rfl))
        (try simp only [List.getElem_toArray, List.getElem_cons_zero, List.getElem_cons_succ, Act.put, List.setIfInBounds_toArray, List.set_cons_zero, List.set_cons_succ])
        refine wpAnyH_take (i := 5) (v := ?_) rfl (by kernel_rfl) (by kernel_rfl) (by kernel_rfl) (fun _ _ _ h => h) (Or.inl ⟨by rfl, ?_⟩) (by assumption) ?_
        rotate_left
        · (intro w hSw; obtain ⟨⟨q0, q1, q2, q3⟩, q4⟩ := hSw; go_simp; (try with_reducible rfl))
        (try simp only [List.getElem_toArray, List.getElem_cons_zero, List.getElem_cons_succ, Act.put, List.setIfInBounds_toArray, List.set_cons_zero, List.set_cons_succ])
        refine wpAnyH_take (i := 6) (v := ?_) rfl (by kernel_rfl) (by kernel_rfl) (by kernel_rfl) (fun _ _ _ h => h) (Or.inl ⟨by rfl, ?_⟩) (by assumption) ?_
        rotate_left
        · (intro w hSw; obtain ⟨⟨q0, q1, q2, q3⟩, q4⟩ := hSw; go_simp; (try with_reducible rfl))
        (try simp only [List.getElem_toArray, List.getElem_cons_zero, List.getElem_cons_succ, Act.put, List.setIfInBounds_toArray, List.set_cons_zero, List.set_cons_succ])
        refine wpAnyH_take (i := 7) (v := ?_) rfl (by kernel_rfl) (by kernel_rfl) (by kernel_rfl) (fun _ _ _ h => h) (Or.inl ⟨by rfl, ?_⟩) (by assumption) ?_
        rotate_left
        · (intro w hSw; obtain ⟨⟨q0, q1, q2, q3⟩, q4⟩ := hSw; go_simp; (try with_reducible rfl))
        (try simp only [List.getElem_toArray, List.getElem_cons_zero, List.getElem_cons_succ, Act.put, List.setIfInBounds_toArray, List.set_cons_zero, List.set_cons_succ])
        refine wpAnyH_ready (rs := [8]) (by kernel_rfl) (by simp) ?_
        refine AllReadyH.cons rfl (fun K hK => ?_) AllReadyH.nil
        go_simp
        refine (HYA.out _ _ _ (K6.out.step hbz).tS).mono ?_
        rintro ee w7 ⟨A7, c7, B7, d7, C7, e7, rfl, rA, rB, rC, b7⟩
        have hbx : Below w6.heap.size w6 w7 := hbz.trans (b7.mono hbz.size)
        (try go_wp2_with fail)
        refine hK.out _ _ (KS.out _ hbx) (fun hHeld => ?_)
        clear hK K
        (try simp only [List.getElem_toArray, List.getElem_cons_zero, List.getElem_cons_succ, Act.put, List.setIfInBounds_toArray, List.set_cons_zero, List.set_cons_succ])
        refine wpAnyH_ready (rs := [9]) (by kernel_rfl) (by simp) ?_
        refine AllReadyH.cons rfl (fun K hK => ?_) AllReadyH.nil
        go_simp
        refine (HTA.out _ _ yk _ (K6.out.step hbx).tS A7 c7 B7 d7 C7 e7 rC).mono ?_
        rw [HV2.out]
        rintro ee w8 ⟨A8, c8, B8, d8, C8, e8, rfl, rA8, rB8, rC8, b8⟩
        have hby : Below w6.heap.size w6 w8 := hbx.trans (b8.mono hbx.size)
        (try go_wp2_with fail)
        refine hK.out _ _ (KS.out _ hby) (fun hHeld => ?_)
        clear hK K
        (try simp only [List.getElem_toArray, List.getElem_cons_zero, List.getElem_cons_succ, Act.put, List.setIfInBounds_toArray, List.set_cons_zero, List.set_cons_succ])
        refine wpAnyH_take (i := 10) (v := ?_) rfl (by kernel_rfl) (by kernel_rfl) (by kernel_rfl) (fun _ _ _ h => h) (Or.inl ⟨by rfl, ?_⟩) (by assumption) ?_
        rotate_left
        · (intro w hSw; obtain ⟨⟨q0, q1, q2, q3⟩, q4⟩ := hSw; go_simp; (try with_reducible rfl))
        (try simp only [List.getElem_toArray, List.getElem_cons_zero, List.getElem_cons_succ, Act.put, List.setIfInBounds_toArray, List.set_cons_zero, List.set_cons_succ])
        refine wpAnyH_take (i := 11) (v := ?_) rfl (by kernel_rfl) (by kernel_rfl) (by kernel_rfl) (fun _ _ _ h => h) (Or.inl ⟨by rfl, ?_⟩) (by assumption) ?_
        rotate_left
        · (intro w hSw; obtain ⟨⟨q0, q1, q2, q3⟩, q4⟩ := hSw; go_simp; (try with_reducible rfl))
        (try simp only [List.getElem_toArray, List.getElem_cons_zero, List.getElem_cons_succ, Act.put, List.setIfInBounds_toArray, List.set_cons_zero, List.set_cons_succ])
        have K8 := Lib.hid (K6.out.step hby)
        obtain ⟨⟨r0, r1, r2, r3, r4, r5, r6, r7, r8, r9⟩, t0, t1, t2, t3, t4, t5, t6, t7, t8, t9⟩ := out_cells K8.out.res
        refine wpAnyH_ready (rs := [12]) (by kernel_rfl) (by simp) ?_
        refine AllReadyH.cons rfl (fun K hK => ?_) AllReadyH.nil
        go_simp
        refine hK.out _ _ (show _ from ⟨(si_cells (setMany_far K8.out.si (Nat.ne_of_gt N2.out) [(0, .int .i64 v.1.E.a), (1, .string ⟨v.1.E.S.toArray⟩), (2, .slice A8 v.1.E.l.length c8), (3, .string ⟨v.1.E.X.toArray⟩), (4, .slice B8 v.1.E.m.length d8), (5, .string ⟨v.1.RS.toArray⟩), (6, .slice C8 v.1.rl.length e8), (7, .bool v.1.lines), (8, .bool v.1.wide), (9, .int .i64 v.1.at_)])).1, (rng_var (setMany_far K8.out.oth (Nat.ne_of_lt (Nat.lt_succ_self _)) [(0, .int .i64 v.1.E.a), (1, .string ⟨v.1.E.S.toArray⟩), (2, .slice A8 v.1.E.l.length c8), (3, .string ⟨v.1.E.X.toArray⟩), (4, .slice B8 v.1.E.m.length d8), (5, .string ⟨v.1.RS.toArray⟩), (6, .slice C8 v.1.rl.length e8), (7, .bool v.1.lines), (8, .bool v.1.wide), (9, .int .i64 v.1.at_)])).1.2.2.1⟩) (fun hHeld => ?_)
        clear hK K
        (try simp only [List.getElem_toArray, List.getElem_cons_zero, List.getElem_cons_succ, Act.put, List.setIfInBounds_toArray, List.set_cons_zero, List.set_cons_succ])
        refine wpAnyH_take (i := 13) (v := ?_) rfl (by kernel_rfl) (by kernel_rfl) (by kernel_rfl) (fun _ _ _ h => h) (Or.inl ⟨by rfl, ?_⟩) (by assumption) ?_
        rotate_left
        · (intro w hSw; obtain ⟨⟨q0, q1, q2, q3⟩, q4⟩ := hSw; go_simp; (try with_reducible rfl))
        (try simp only [List.getElem_toArray, List.getElem_cons_zero, List.getElem_cons_succ, Act.put, List.setIfInBounds_toArray, List.set_cons_zero, List.set_cons_succ])
        refine wpAnyH_done (by kernel_rfl) ?_ _
        go_wp2_with fail
        exact end_out (v := v) rfl _ K8.out.res noLab_out K8.out.bel (by omega) rA8 rB8 rC8 rfl rfl rfl rfl (fun _ _ h => h)
      have e99 : (op == 99) = false := by rw [beq_eq_false_iff_ne]; exact h99
      have hno : ¬ (op = 100 ∨ op = 121 ∨ op = 99) := by omega
      have HVa := Lib.hid ((if_neg hno).symm.trans HV.out)
      by_cases h62 : op = 62
      · subst h62
        have HV2 : Hid (shfM S l V y 62 a e = v) := by show _ = _; rw [← PS.out 62 (.inl rfl)]; exact ((if_pos (by decide)).symm.trans HVa.out)
        go_wp2_with (go_at_call 53; refine (HSH.out 62 (.inl rfl) _ _ _ K6.out.tS).mono ?_; rw [HV2.out]; rintro e w7 ⟨A7, c7, B7, d7, C7, e7, rfl, rA, rB, rC, bb⟩; have K7 := Lib.hid (K6.out.step bb); obtain ⟨⟨r0, r1, r2, r3, r4, r5, r6, r7, r8, r9⟩, t0, t1, t2, t3, t4, t5, t6, t7, t8, t9⟩ := out_cells K7.out.res)
        exact end_out rfl _ K7.out.res noLab_out K7.out.bel (by omega) rA rB rC rfl rfl rfl rfl (fun _ _ h => h)
      have e62 : (op == 62) = false := by rw [beq_eq_false_iff_ne]; exact h62
      by_cases h60 : op = 60
      · subst h60
        have HV2 : Hid (shfM S l V y 60 a e = v) := by show _ = _; rw [← PS.out 60 (.inr rfl)]; exact ((if_pos (by decide)).symm.trans HVa.out)
        go_wp2_with (go_at_call 53; refine (HSH.out 60 (.inr (.inl rfl)) _ _ _ K6.out.tS).mono ?_; rw [HV2.out]; rintro e w7 ⟨A7, c7, B7, d7, C7, e7, rfl, rA, rB, rC, bb⟩; have K7 := Lib.hid (K6.out.step bb); obtain ⟨⟨r0, r1, r2, r3, r4, r5, r6, r7, r8, r9⟩, t0, t1, t2, t3, t4, t5, t6, t7, t8, t9⟩ := out_cells K7.out.res)
        exact end_out rfl _ K7.out.res noLab_out K7.out.bel (by omega) rA rB rC rfl rfl rfl rfl (fun _ _ h => h)
      have e60 : (op == 60) = false := by rw [beq_eq_false_iff_ne]; exact h60
      have HVb := Lib.hid ((if_neg (show ¬ (op = 62 ∨ op = 60) by omega)).symm.trans HVa.out)
      by_cases h126 : op = 126
      · subst h126
        have HV2 := Lib.hid (PT.out.symm.trans ((if_pos rfl).symm.trans HVb.out))
        go_wp2_with (go_at_call 54; refine (HTU.out _ _ _ K6.out.tS).mono ?_; rw [HV2.out]; rintro e w7 ⟨A7, c7, B7, d7, C7, e7, rfl, rA, rB, rC, bb⟩; have K7 := Lib.hid (K6.out.step bb); obtain ⟨⟨r0, r1, r2, r3, r4, r5, r6, r7, r8, r9⟩, t0, t1, t2, t3, t4, t5, t6, t7, t8, t9⟩ := out_cells K7.out.res)
        exact end_out rfl _ K7.out.res noLab_out K7.out.bel (by omega) rA rB rC rfl rfl rfl rfl (fun _ _ h => h)
      have e126 : (op == 126) = false := by rw [beq_eq_false_iff_ne]; exact h126
      have HVc := Lib.hid ((if_neg h126).symm.trans HVb.out)
      by_cases h74 : op = 74
      · subst h74
        have HV2 := Lib.hid (PJ.out.symm.trans ((if_pos rfl).symm.trans HVc.out))
        have hmx : max (e : Int) ((a : Int) + 1) = ((max e (a + 1) : Nat) : Int) := by omega
        have HMX := Lib.hid hmx
        clear hmx
        generalize max e (a + 1) = j at *
        go_wp2_with (go_at_call 55; rw [HMX.out]; refine (HJO.out _ _ _ K6.out.tS).mono ?_; rw [HV2.out]; rintro e w7 ⟨A7, c7, B7, d7, C7, e7, rfl, rA, rB, rC, bb⟩; have K7 := Lib.hid (K6.out.step bb); obtain ⟨⟨r0, r1, r2, r3, r4, r5, r6, r7, r8, r9⟩, t0, t1, t2, t3, t4, t5, t6, t7, t8, t9⟩ := out_cells K7.out.res)
        exact end_out rfl _ K7.out.res noLab_out K7.out.bel (by omega) rA rB rC rfl rfl rfl rfl (fun _ _ h => h)
      have e74 : (op == 74) = false := by rw [beq_eq_false_iff_ne]; exact h74
      have HVd := Lib.hid ((if_neg h74).symm.trans HVc.out)
      obtain ⟨⟨r0, r1, r2, r3, r4, r5, r6, r7, r8, r9⟩, t0, t1, t2, t3, t4, t5, t6, t7, t8, t9⟩ := out_cells K6.out.res
      go_wp2_with fail
      exact end_zero rfl _ K6.out.res noLab_out K6.out.bel (by omega) rfl rfl rfl HVd.out (fun _ _ h => h)
  · have HV : Hid ((out0, 2) = v) := (hbad (.inl hn0) op).symm.trans hv
    have hn2 : ((n : Int) != 0) = true := by rw [bne_iff_ne]; omega
    clear hbad hv hn hV hvl
    go_enter Tryz.func16, Tryz.ntmps16
    go_upto_region 1 with fail
    generalize ((w.alloc (.cells #[.string ⟨S.toArray⟩, .slice A l.length c] 32)).alloc (.cells #[.int .i64 f, .int .i64 t, .bool b] 25)).alloc (.cells #[.int .i64 0, .string ⟨#[]⟩, .slice none 0 0, .string ⟨#[]⟩, .slice none 0 0, .string ⟨#[]⟩, .slice none 0 0, .bool false, .bool false, .int .i64 0] 43) = wx at *
    obtain ⟨z0, z1⟩ := txt_cells BX.out.1
    go_upto_region 2 with (go_at_call 46; refine (HLK.out _ TX.out).mono ?_; rintro e w2 ⟨A2, c2, rfl, tS, bb⟩; have K2 : Hid (DoK w (w2.alloc (.cells #[.string ⟨S.toArray⟩, .slice A2 l.length c2, .int .u64 (y : Nat), .string ⟨V.toArray⟩] 89)) w2.heap.size (w.heap.size + 1 + 1) A2 c2 S l y V (w.heap.size + 1) 25 #[.int .i64 f, .int .i64 t, .bool b]) := ⟨Blk.new w2 _ _, (BX.out.2.2.1.below bb BX.out.2.2.1.lt).alloc _, (BX.out.2.1.below bb BX.out.2.1.lt).alloc _, (BX.out.2.2.2.trans (bb.mono BX.out.2.2.2.size)).alloc (BX.out.2.2.2.trans (bb.mono BX.out.2.2.2.size)).size _, grow_txu tS _ ((Below.refl _ _).alloc (Nat.le_refl _) _)⟩; have N2 : Hid (w.heap.size + 1 + 1 < w2.heap.size) := Nat.lt_of_lt_of_le BX.out.2.2.1.lt bb.size; clear tS bb z0 z1)
    generalize hg10 : w2.heap.size = g10 at *
    generalize w2.alloc (.cells #[.string ⟨S.toArray⟩, .slice A2 l.length c2, .int .u64 (y : Nat), .string ⟨V.toArray⟩] 89) = w3 at *
    clear hg10 BX TX HLK
    obtain ⟨⟨r0, r1, r2, r3, r4, r5, r6, r7, r8, r9⟩, t0, t1, t2, t3, t4, t5, t6, t7, t8, t9⟩ := out_cells K2.out.res
    go_wp2_with fail
    exact end_zero rfl _ K2.out.res noLab_out K2.out.bel (by omega) rfl rfl rfl HV.out (fun _ _ h => h)
end Go.Proofs.YtgpmfkedcoiopaaGreatDoor

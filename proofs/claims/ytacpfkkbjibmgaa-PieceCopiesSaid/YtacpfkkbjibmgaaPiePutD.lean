/-
  The landed store: Put, done: layer 5.
-/
import Derived.Test.YtacpfkkbjibmgaaPiePutC
namespace Go.Proofs.Ytacpfkkbjibmgaa
open Go.RowKit

theorem put_math {bs X : List UInt8} {ps qs4 qs5 : List PieP} {F T i4 i5 : Nat} {m : List RunP} (s4 : Splits bs ps F qs4 i4) (s5 : Splits bs qs4 T qs5 i5) (hFT : F ≤ T) (hT : T ≤ lenP ps) (good : goodT X m = true) (hf : Fits m) :
    i4 ≤ i5 ∧ i5 ≤ qs5.length ∧ OkP (bs ++ X) (qs5.take i4 ++ keepP bs.length m ++ qs5.drop i5) ∧
    bytesP (bs ++ X) (qs5.take i4 ++ keepP bs.length m ++ qs5.drop i5) = (bytesP bs ps).take F ++ X ++ (bytesP bs ps).drop T ∧
    labsP (qs5.take i4 ++ keepP bs.length m ++ qs5.drop i5) = (labsP ps).take F ++ bytesOf m ++ (labsP ps).drop T ∧ lenP (qs5.take i4 ++ keepP bs.length m ++ qs5.drop i5) = lenP ps - (T - F) + X.length := by
  obtain ⟨gz1, gz2, gz3⟩ := goodT_size good
  have hneat := ((goodB_iff m).1 ((goodT_iff X m).1 good).1).2
  have hsum : sumN m = X.length := by rw [← bytesOf_len, gz3]
  obtain ⟨k1, k2⟩ := s5.keep i4 s4.idx (by rw [s4.at_]; exact hFT)
  have hq : lenP (qs5.take i4) = F := by rw [k1, s4.at_]
  have hb5 : bytesP bs qs5 = bytesP bs ps := by rw [s5.bytes, s4.bytes]
  have hl5 : labsP qs5 = labsP ps := by rw [s5.labs, s4.labs]
  have e1 := (bytesP_take s5.ok i4).1
  have e2 := (bytesP_take s5.ok i5).2
  have e3 := (labsP_take qs5 i4).1
  have e4 := (labsP_take qs5 i5).2
  rw [hq, hb5] at e1
  rw [s5.at_, hb5] at e2
  rw [hq, hl5] at e3
  rw [s5.at_, hl5] at e4
  have okk := keepP_ok bs X m (by omega) (neat_pos hneat) (fun r hr => (hf r hr).1)
  have hlab : labsP (qs5.take i4 ++ keepP bs.length m ++ qs5.drop i5) = (labsP ps).take F ++ bytesOf m ++ (labsP ps).drop T := by rw [labsP_append, labsP_append, e3, e4, keepP_labs]
  refine ⟨k2, s5.idx, (((s5.ok.take i4).more X).append okk).append ((s5.ok.drop i5).more X), ?_, hlab, ?_⟩
  · rw [bytesP_append, bytesP_append, bytesP_more (s5.ok.take i4), bytesP_more (s5.ok.drop i5), e1, e2, keepP_bytes bs X m (by omega), hsum, List.take_length]
  · rw [← labsP_len, hlab, List.length_append, List.length_append, List.length_take, List.length_drop, labsP_len, gz3]
    omega

set_option maxRecDepth 100000 in
set_option maxHeartbeats 2000000 in
/-- put -/
theorem piePut_done (P : Nat → Prop) (g most : Nat) (vb vp : Value) (bs X : List UInt8) (ps : List PieP) (A : Option Addr) (c : Nat) (m : List RunP) (F T : Nat) (w : World) (h : StoW w P g most vb vp bs ps) (ha : PutArg P A X m w) (hg : goodT X m = true) (hFT : F ≤ T) (hT : T ≤ lenP ps) (hroom : lenP ps - (T - F) + X.length ≤ most) (hP : ∀ k, w.heap.size ≤ k → P k) (hbs2 : bs.length ≤ 2 * most) :
    Calls Try.prog 15 #[.pointer (some ⟨g, 0, none⟩), .int .i64 (F : Nat), .int .i64 (T : Nat), .agg #[.string ⟨X.toArray⟩, .slice A m.length c]] w fun e w' => e = .returned (.int .i64 0) ∧
      (∃ vb' vp' bs' ps', StoW w' P g most vb' vp' bs' ps' ∧ bytesP bs' ps' = (bytesP bs ps).take F ++ X ++ (bytesP bs ps).drop T ∧ labsP ps' = (labsP ps).take F ++ bytesOf m ++ (labsP ps).drop T ∧ bs'.length ≤ 2 * most) ∧ Chg P w w' := by
  have hl := h.len
  have h4 := h.most4
  have hm := h.max
  obtain ⟨gz1, gz2, gz3⟩ := goodT_size hg
  have HZ3 := Lib.hid gz3
  have Q := Lib.hid (put_box (c := c) h ha)
  have HH := Lib.hid h
  have HA := Lib.hid ha
  obtain ⟨A0, c0, hvp⟩ := own_form h.pcs
  have HVP := Lib.hid hvp
  clear h ha hvp gz3
  go_enter Try.func15, Try.ntmps15
  go_upto_region 1 with (fail)
  generalize w.alloc (.cells #[.string ⟨X.toArray⟩, .slice A m.length c] 28) = w0 at *
  have HB1 : Hid (Blk w0 g 54 #[.bool true, .int .i64 (most : Nat), vb, .slice A0 ps.length c0]) := by rw [← HVP.out]; exact Q.out.1.blk
  have HR1 : Hid (Row w0 w0.heap.size A0 (flatP ps)) := by have := Q.out.1.pcs; rw [HVP.out] at this; exact Row.of_own this
  obtain ⟨x0, _, _, x3⟩ := sto_cells HB1.out
  obtain ⟨y0, y1⟩ := txt_cells Q.out.2.2.1
  have hgl : g < w0.heap.size := HB1.out.lt
  have HW : Hid (decide (0 ≤ (F : Int) ∧ (F : Int) ≤ (T : Int) ∧ (T : Int) ≤ (lenP ps : Int)) = true) := decide_eq_true ⟨by omega, by omega, by omega⟩
  have HG := Lib.hid hg
  clear hg
  have hr0 : ¬ ((most - lenP ps : Nat) : Int) + ((T : Int) - (F : Int)) < (X.length : Int) := by omega
  have w1 := wrap_small ((T : Int) - (F : Int)) (by omega) (by omega)
  have w2 := wrap_small (((most - lenP ps : Nat) : Int) + ((T : Int) - (F : Int))) (by omega) (by omega)
  go_wp2_with (first
    | (go_at_call 21; refine (pieUsable_yes g _ x0).mono ?_; rintro e w1 ⟨rfl, rfl⟩)
    | (go_at_call 30; refine (stpGood_any A c w.heap.size X m w0 (by rw [Q.out.2.2.2.2]; omega) Q.out.2.1).mono ?_; rw [HG.out]; rintro e w1 ⟨rfl, hb1⟩; have HB2 := Lib.hid (HB1.out.below hb1 hgl); have HR2 := Lib.hid (HR1.out.below hb1); have z1 := hb1.size; have B1 := Lib.hid hb1; clear hb1 x0 x3 y0 y1)
    | (go_at_call 22; refine (pieWithin_any g w0.heap.size A0 c0 _ _ ps (F : Int) (T : Int) w1 HB2.out z1 HR2.out (by omega) (by omega)).mono ?_; rw [HW.out]; rintro e w2 ⟨rfl, hb2⟩; have B2 : Hid (Below w0.heap.size w0 w2) := B1.out.trans (hb2.mono z1); clear hb2))
  have HB3 := Lib.hid ((HB1.out.below B2.out hgl).drewN 1)
  have HR3 := Lib.hid ((HR1.out.below B2.out).drewN 1)
  have z2 := B2.out.size
  have hgt : w.heap.size < w0.heap.size := by rw [Q.out.2.2.2.2]; omega
  have T2 := Lib.hid (Q.out.2.2.1.below B2.out hgt)
  have K0 : Hid (w2.drew.cell? ⟨w.heap.size, 0, none⟩ = some (.string ⟨X.toArray⟩)) := (txt_cells T2.out).1
  have hX2 : ((X.length : Nat) : Int) = (X.length : Int) := rfl
  go_region_held3 (fun w' => w'.cell? ⟨w.heap.size, 0, none⟩ = some (.string ⟨X.toArray⟩))
    (first
      | exact K0.out
      | exact K1.out)
    (first
      | (go_at_call 18; refine (pieRoom_any g w0.heap.size A0 c0 most vb ps _ HB3.out z2 HR3.out (by omega) hm h4).mono ?_; rintro e w3 ⟨rfl, hb3⟩; have T3 := Lib.hid (T2.out.below (B := w2.heap.size) (w' := w3) (Below.trans (below_drewN (Below.refl _ w2) 1) hb3) (by omega)); have K1 : Hid (w3.cell? ⟨w.heap.size, 0, none⟩ = some (.string ⟨X.toArray⟩)) := (txt_cells T3.out).1; have B3 : Hid (Below w0.heap.size w0 w3) := B2.out.trans ((Below.trans (below_drewN (Below.refl w2.heap.size w2) 1) hb3).mono z2); clear hb3))
  have z3 := B3.out.size
  have S3 := Lib.hid (Q.out.1.fresh B3.out)
  have HPn : Hid (∀ w' : World, w.heap.size ≤ w'.heap.size → ∀ k, w'.heap.size ≤ k → P k) := fun w' hz k hk => hP k (by omega)
  have C3 : Hid (Chg P w w3) := Chg.of_fresh (Q.out.2.2.2.1.trans (B3.out.mono (by omega)))
  have hbs4 : bs.length ≤ 100000 := by omega
  clear K0 K1 HB3 HR3 T2 HB2 HR2 hr0 hX2 HR1 HB1
  go_wp2_with fail
  refine (pieSplit_any g (.bool true) (.int .i64 (most : Nat)) vb vp bs ps F w3 S3.out.blk S3.out.pcs S3.out.ok hbs4 (by omega) (by omega) (by omega)).mono ?_
  rintro e w4 ⟨i4, rfl, hs4⟩
  obtain ⟨vp4, qs4, s4, sp4, n4, c4⟩ := S3.out.split (HPn.out w3 (by omega)) hs4
  have T4 := Lib.hid (T3.out.chg c4 (fun h => h.elim (fun e => by have := HH.out.blk.lt; omega) (fun e => by have := (HH.out.vp_not e).1; omega)))
  have z4 := c4.size
  have C4 := Lib.hid (C3.out.trans (c4.more (fun k _ hk => hk.elim (fun e => by subst e; exact S3.out.gP) (S3.out.pP k))))
  have S4 := Lib.hid s4
  have P4 := Lib.hid sp4
  have N4 : Hid (∀ k, vp4.ownBlock = some k → k ≠ w.heap.size) := fun k hk => (n4 k hk).elim (fun e => by have := (HH.out.vp_not e).1; omega) (fun e => by omega)
  have hl4 : lenP qs4 = lenP ps := by rw [← labsP_len, sp4.labs, labsP_len]
  have hq4 := s4.len
  have HL4 := Lib.hid hl4
  have hm4 : lenP qs4 ≤ 4096 := by omega
  have hT4 : T ≤ lenP qs4 := by omega
  clear hs4 s4 sp4 n4 c4 hl4
  go_wp2_with fail
  refine (pieSplit_any g (.bool true) (.int .i64 (most : Nat)) vb vp4 bs qs4 T w4 S4.out.blk S4.out.pcs S4.out.ok hbs4 (by omega) hm4 hT4).mono ?_
  rintro e w5 ⟨i5, rfl, hs5⟩
  obtain ⟨vp5, qs5, s5, sp5, n5, c5⟩ := S4.out.split (HPn.out w4 (by omega)) hs5
  have T5 := Lib.hid (T4.out.chg c5 (fun h => h.elim (fun e => by have := HH.out.blk.lt; omega) (fun e => N4.out _ e rfl)))
  have z5 := c5.size
  have C5 := Lib.hid (C4.out.trans (c5.more (fun k _ hk => hk.elim (fun e => by subst e; exact S3.out.gP) (S4.out.pP k))))
  have S5 := Lib.hid s5
  have P5 := Lib.hid sp5
  have hq5 := s5.len
  clear hs5 s5 sp5 n5 c5
  have HM := Lib.hid (put_math P4.out P5.out hFT hT HG.out HA.out.hf)
  have hij := HM.out.1
  have hj5 := HM.out.2.1
  obtain ⟨A5, c5, rfl⟩ := own_form S5.out.pcs
  have S5d : Hid (StoW w5.drew P g most vb (.slice A5 qs5.length c5) bs qs5) := S5.out.fresh (below_drewN (Below.refl _ w5) 1)
  have hz5 : w.heap.size ≤ w5.heap.size := C5.out.size
  have hP5 : Hid (∀ k, w5.drew.heap.size ≤ k → P k) := HPn.out w5 hz5
  have R5 : Hid (RowF w5.drew P A (flatR m)) := (HA.out.row.chg C5.out).chg ((Chg.refl P w5).drewN 1)
  have KP := Lib.hid (put_keep P g most vb (.slice A5 qs5.length c5) bs X qs5 A c m w5.drew hP5.out S5d.out R5.out HG.out HA.out.hf)
  have hkl : (keepP bs.length m).length = m.length := keepP_len _ _
  have hml : m.length ≤ 4096 := by
    have := pack_len (bytesOf m)
    rw [goodB_eq ((goodT_iff X m).1 HG.out).1] at this
    have := HZ3.out
    omega
  have HKL := Lib.hid hkl
  clear hkl
  have hvp5 : Hid (∀ k, (Value.slice A5 qs5.length c5).ownBlock = some k → P k ∧ k < w5.drew.heap.size) := fun k hk => ⟨S5.out.pP k hk, (S5.out.vp_not hk).1⟩
  obtain ⟨_, _, _, x3⟩ := sto_cells S5.out.blk
  obtain ⟨y0, y1⟩ := txt_cells T5.out
  have hbx : (bs ++ X).length ≤ 20000 := by rw [List.length_append]; omega
  have HBX := Lib.hid hbx
  have HRL : Hid (lenP (qs5.take i4 ++ keepP bs.length m ++ qs5.drop i5) ≤ most) := by show _ ≤ _; rw [HM.out.2.2.2.2.2]; exact hroom
  clear S3 S4 T3 T4 N4 P4 P5 HL4 C3 C4 B1 B2 B3 hbx
  generalize hRR : qs5.take i4 ++ keepP bs.length m ++ qs5.drop i5 = RR at *
  have HRR := Lib.hid hRR
  clear hRR
  go_upto_region 8 with (fail)
  go_cut [53] (fun _ wx => ∃ vb8 v8, StoW wx P g most vb8 v8 (bs ++ X) (joinP RR) ∧ Chg P w5 wx)
  case first =>
    go_region_law (first
      | (go_simp; go_at_call 34; refine KP.out.mono ?_; rintro e w6 ⟨A6, c6, vb6, rfl, k6⟩; have K6 := Lib.hid k6; have x36 := (sto_cells k6.blk).2.2.2; clear k6)
      | (go_simp; go_at_call 33; (with_reducible refine (put_rep P g most i4 i5 (.slice A5 qs5.length c5) (.slice A6 (keepP bs.length m).length c6) vb6 (bs ++ X) qs5 (keepP bs.length m) w5.drew w6 hP5.out hvp5.out K6.out hij hj5 (by omega) (by rw [HKL.out]; omega)).mono ?_); rw [HRR.out]; rintro e w7 ⟨A7, c7, n7, rfl, k7⟩; have K7 := Lib.hid k7; clear k7)
      | (go_simp; go_at_call 32; (with_reducible refine (put_join P g most (.slice A5 qs5.length c5) (.slice A7 n7 c7) vb6 (bs ++ X) RR w5.drew w7 S5.out.gP K7.out HM.out.2.2.1 HRL.out h4 HBX.out).mono ?_); rintro e w8 ⟨A8, c8, n8, rfl, x38, f38, s8, ch8⟩; have S8 := Lib.hid s8; have C8 := Lib.hid ch8; clear s8 ch8))
    all_goals
      go_wp2_with fail
      go_meet
      exact ⟨_, _, S8.out, ⟨C8.out.os, C8.out.tape, C8.out.output, C8.out.size, C8.out.block⟩⟩
  case rest =>
    obtain ⟨vb8, v8, s8, c8⟩ := hcut
    have S8 := Lib.hid s8
    have C8 := Lib.hid (C5.out.trans c8)
    obtain ⟨Ab, cb, hvb, _, _⟩ := s8.buf.form
    have HVB := Lib.hid hvb
    have x2 : wc.cell? ⟨g, 2, none⟩ = some (.slice Ab (bs ++ X).length cb) := by rw [← hvb]; exact (sto_cells s8.blk).2.2.1
    have x1 := (sto_cells s8.blk).2.1
    have HJ := Lib.hid (joinP_says HM.out.2.2.1 RR.length (Nat.le_refl _))
    have e1 : Hid (bytesP (bs ++ X) (joinP RR) = (bytesP bs ps).take F ++ X ++ (bytesP bs ps).drop T ∧ labsP (joinP RR) = (labsP ps).take F ++ bytesOf m ++ (labsP ps).drop T) := by
      obtain ⟨_, j2, j3, _⟩ := HJ.out
      rw [List.take_length] at j2 j3
      exact ⟨by rw [j2]; exact HM.out.2.2.2.1, by rw [j3]; exact HM.out.2.2.2.2.1⟩
    have hz8 : w.heap.size ≤ wc.heap.size := C8.out.size
    generalize hnn : (bs ++ X).length = nn at *
    have HNN := Lib.hid hnn
    have hn5 := HBX.out
    have w9 := wrap_small ((2 : Int) * (most : Int)) (by omega) (by omega)
    clear hnn s8 c8 hvb x3 y0 y1
    by_cases hbig : (nn : Int) > 2 * (most : Int)
    · go_wp2_with fail
      go_quiet (fail)
      have S9 := Lib.hid (S8.out.fresh (below_drewN (Below.refl wc.heap.size wc) nq))
      have C9 := Lib.hid (C8.out.drewN nq)
      have hz9 : w.heap.size ≤ (wc.drewN nq).heap.size := hz8
      generalize wc.drewN nq = w9 at *
      go_wp2_with (go_at_call 35; refine (piePack_any P g most vb8 v8 (bs ++ X) (joinP RR) w9 (HPn.out w9 hz9) S9.out).mono ?_; rintro e wE ⟨rfl, hE, cE⟩; have HE := Lib.hid hE; have CE := Lib.hid cE; clear hE cE)
      go_ret
      obtain ⟨vb', vp', bs', ps', h1, h2, h3, h4'⟩ := HE.out
      exact ⟨rfl, ⟨vb', vp', bs', ps', h1, by rw [h2]; exact e1.out.1, by rw [h3]; exact e1.out.2, by omega⟩, C9.out.trans (CE.out.more fun k _ e => by subst e; exact S9.out.gP)⟩
    · go_wp2_with fail
      go_quiet (fail)
      have S9 := Lib.hid (S8.out.fresh (below_drewN (Below.refl wc.heap.size wc) nq))
      have C9 := Lib.hid (C8.out.drewN nq)
      generalize wc.drewN nq = w9 at *
      go_wp2_with fail
      go_ret
      exact ⟨rfl, ⟨vb8, v8, bs ++ X, joinP RR, S9.out, e1.out.1, e1.out.2, by have := HNN.out; omega⟩, C9.out⟩
end Go.Proofs.Ytacpfkkbjibmgaa

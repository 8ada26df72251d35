/-
  What d took is there again when it is put back: layer 14, OperBack.
-/
import Derived.Test.YtgpmfkedcoiopaaGreatDoorM14e
import Derived.Test.YtgpmfkedcoiopaaGreatDoorM14d
namespace Go.Proofs.YtgpmfkedcoiopaaGreatDoor
open Go.RowKit
set_option maxRecDepth 100000
theorem good_small {S : List UInt8} {l : List RunP} (hg : goodT S l = true) : S.length ≤ 5000 ∧ l.length ≤ 5000 := by
  have h1 := goodT_size hg
  have h2 := goodB_eq ((goodT_iff S l).1 hg).1
  have h3 := pack_len (bytesOf l)
  rw [h2] at h3
  omega
set_option maxHeartbeats 16000000 in
theorem operBack_walk (w : World) (KS : OperSays w) (S : List UInt8) (A : Option Addr) (l : List RunP) (c y : Nat) (hy : y < 18446744073709551616) (op f t : Int) (hf : -9223372036854775808 ≤ f ∧ f ≤ 9223372036854775807) (ht : -9223372036854775808 ≤ t ∧ t ≤ 9223372036854775807) (b : Bool) (p n : Int) (X : List UInt8) (A2 : Option Addr) (m : List RunP) (c2 : Nat) (xb ah : Bool) (h : Txu w A S l) (hX : Txu w A2 X m) :
    Calls Tryz.prog 10 #[.agg (jobC S A l c y op f t b p n X A2 m c2 xb ah)] w fun e w' => e = .returned (.bool true) ∧ Below w.heap.size w w' := by
  have HS := Lib.hid KS
  have HFJ := Lib.hid (fun wx => lawFitsJ_any S A l c y op f t b p n X A2 m c2 xb ah hX.hS hX.hl wx)
  have HFT : Hid (fitsJ S l X m = true → S.length ≤ 5000 ∧ l.length ≤ 5000) := fun e => by
    unfold fitsJ at e
    simp only [Bool.and_eq_true, decide_eq_true_eq] at e
    omega
  have HOK := Lib.hid (okO_do (S := S) h.hf hy 100 f t false)
  have HFF := Lib.hid (And.intro h.hf hX.hf)
  generalize fitsJ S l X m = fj at *
  go_enter Tryz.func10, Tryz.ntmps10
  go_upto_region 1 with fail
  change Code.wp _ _ _ _ (w.alloc (.cells (jobC S A l c y op f t b p n X A2 m c2 xb ah) 38))
  have b0 : Below w.heap.size w (w.alloc (.cells (jobC S A l c y op f t b p n X A2 m c2 xb ah) 38)) := (Below.refl _ _).alloc (Nat.le_refl _) _
  have Kj := grow_new w 38 (jobC S A l c y op f t b p n X A2 m c2 xb ah)
  have Kb : Grow (w.alloc (.cells (jobC S A l c y op f t b p n X A2 m c2 xb ah) 38)) (fun w' => Below w.heap.size w w') := fun w' hb => b0.trans (hb.mono b0.size)
  have K := Lib.hid (Kj.and (Kb.and (Grow.alloc (grow_txu h) _)))
  clear Kj Kb b0 h hX KS
  generalize w.alloc (.cells (jobC S A l c y op f t b p n X A2 m c2 xb ah) 38) = wb at *
  go_upto_region 3 with (go_at_call 12; refine (aliveP_any _ (HS.out.at K.out.now.2.1)).mono ?_; rintro e w1 ⟨rfl, bb⟩; replace K := Lib.hid (K.out.step bb); clear bb)
  obtain ⟨x0, x1, x2, x3, x4, x5, x6, x7, x8, x9, x10, x11, x12⟩ := job_cells K.out.now.1
  cases fj with
  | false =>
    go_wp2_with (go_at_call 15; refine (HFJ.out _).mono ?_; rintro e w2 ⟨rfl, bb⟩; replace K := Lib.hid (K.out.step bb); clear bb)
    go_ret
    exact ⟨rfl, K.out.now.2.1⟩
  | true =>
    obtain ⟨l1, l2⟩ := HFT.out rfl
    cases b with
    | true =>
      go_wp2_with (go_at_call 15; refine (HFJ.out _).mono ?_; rintro e w2 ⟨rfl, bb⟩; replace K := Lib.hid (K.out.step bb); clear bb x0 x1 x2 x3 x4 x5 x6 x7 x8 x9 x10 x11 x12; obtain ⟨x0, x1, x2, x3, x4, x5, x6, x7, x8, x9, x10, x11, x12⟩ := job_cells K.out.now.1)
      go_ret
      exact ⟨rfl, K.out.now.2.1⟩
    | false =>
      have HL1 := Lib.hid (fun wx (hb : Below w.heap.size w wx) (h1 : Txu wx A S l) => HS.out.do_ A c S l y 100 f t false wx hb h1 l1 l2 hy (by decide) hf ht)
      have HBP := Lib.hid (back_put (S := S) (l := l) (y := y) (f := f) (t := t))
      clear l1 l2
      obtain ⟨v, hv⟩ : ∃ v, doM S l y 100 f t false = v := ⟨_, rfl⟩
      rw [hv] at HL1 HOK HBP
      clear hv
      obtain ⟨⟨⟨ea, ES, el, EX, em⟩, RS, rl, bl, bw, ra⟩, rn⟩ := v
      obtain ⟨k1, k2, k3⟩ := HOK.out
      have HK := Lib.hid (And.intro k1 (And.intro k2 k3))
      clear k1 k2 k3 HOK
      go_upto_region 5 with (go_at_call 15; refine (HFJ.out _).mono ?_; rintro e w2 ⟨rfl, bb⟩; replace K := Lib.hid (K.out.step bb); clear bb x0 x1 x2 x3 x4 x5 x6 x7 x8 x9 x10 x11 x12; obtain ⟨x0, x1, x2, x3, x4, x5, x6, x7, x8, x9, x10, x11, x12⟩ := job_cells K.out.now.1)
      go_upto_region 6 with (go_at_call 16; refine (HL1.out _ K.out.now.2.1 K.out.now.2.2).mono ?_; rintro e w3 ⟨A4, c4, B4, d4, C4, g4, rfl, rA, rB, rC, bb⟩; dsimp only at rA rB rC ⊢; have Kr := Lib.hid (Grow.alloc ((grow_txu (wx := w3) (OkT.txt2 HK.out.1 rA)).and ((grow_txu (wx := w3) (OkT.txt2 HK.out.2.1 rB)).and (grow_txu (wx := w3) (OkT.txt2 HK.out.2.2 rC)))) (.cells #[.int .i64 ea, .string ⟨ES.toArray⟩, .slice A4 el.length c4, .string ⟨EX.toArray⟩, .slice B4 em.length d4, .string ⟨RS.toArray⟩, .slice C4 rl.length g4, .bool bl, .bool bw, .int .i64 ra] 43)); have K2 := Lib.hid (((K.out.step bb).alloc (.cells #[.int .i64 ea, .string ⟨ES.toArray⟩, .slice A4 el.length c4, .string ⟨EX.toArray⟩, .slice B4 em.length d4, .string ⟨RS.toArray⟩, .slice C4 rl.length g4, .bool bl, .bool bw, .int .i64 ra] 43)).and (Kr.out.and (grow_new w3 43 #[.int .i64 ea, .string ⟨ES.toArray⟩, .slice A4 el.length c4, .string ⟨EX.toArray⟩, .slice B4 em.length d4, .string ⟨RS.toArray⟩, .slice C4 rl.length g4, .bool bl, .bool bw, .int .i64 ra]))); clear bb rA rB rC Kr x0 x1 x2 x3 x4 x5 x6 x7 x8 x9 x10 x11 x12)
      change Code.wp _ _ _ _ (w3.alloc (.cells #[.int .i64 ea, .string ⟨ES.toArray⟩, .slice A4 el.length c4, .string ⟨EX.toArray⟩, .slice B4 em.length d4, .string ⟨RS.toArray⟩, .slice C4 rl.length g4, .bool bl, .bool bw, .int .i64 ra] 43))
      generalize w3.heap.size = h1 at *
      generalize w3.alloc (.cells #[.int .i64 ea, .string ⟨ES.toArray⟩, .slice A4 el.length c4, .string ⟨EX.toArray⟩, .slice B4 em.length d4, .string ⟨RS.toArray⟩, .slice C4 rl.length g4, .bool bl, .bool bw, .int .i64 ra] 43) = w4 at *
      clear K HL1 HFJ HFT
      by_cases hrn : rn = 0
      · subst hrn
        obtain ⟨U, q, hap, hgU, hgR, hbl, hrest⟩ := HBP.out rfl
        try dsimp only at hap hgR hbl hrest
        subst hbl
        have HAP := Lib.hid hap
        have HGU := Lib.hid hgU
        have HGR := Lib.hid hgR
        have HRS := Lib.hid hrest
        have HOU : Hid (OkT ((U, q), 0)) := by
          have := okT_apply (S := S) (l := l) (X := EX) (m := em) HFF.out.1 HK.out.2.1.2.1 ea ES el
          rw [hap] at this
          exact this
        clear hap hgU hgR hrest HBP
        obtain ⟨x0, x1, x2, x3, x4, x5, x6, x7, x8, x9, x10, x11, x12⟩ := job_cells K2.out.now.1.1
        obtain ⟨⟨p0, p1, p2, p3, p4, p5, p6, p7, p8, p9⟩, _⟩ := out_cells K2.out.now.2.2
        go_upto_region 9 with (go_at_call 25; refine (refEApply_any A A4 B4 c c4 d4 S l ea ES el EX em _ K2.out.now.1.2.2 K2.out.now.2.1.1 K2.out.now.2.1.2.1).mono ?_; rw [HAP.out]; rintro e w5 ⟨A6, c6, rfl, own6, bb⟩; dsimp only at own6 ⊢; have TU := Lib.hid (Grow.alloc (grow_txu (wx := w5) (OkT.txt2 HOU.out (Row.of_own own6))) (.cells #[.string ⟨U.toArray⟩, .slice A6 q.length c6] 32)); have K3 := Lib.hid (((K2.out.step bb).alloc (.cells #[.string ⟨U.toArray⟩, .slice A6 q.length c6] 32)).and (TU.out.and (grow_new w5 32 #[.string ⟨U.toArray⟩, .slice A6 q.length c6]))); clear bb own6 TU x0 x1 x2 x3 x4 x5 x6 x7 x8 x9 x10 x11 x12 p0 p1 p2 p3 p4 p5 p6 p7 p8 p9)
        generalize w5.heap.size = h2 at *
        generalize w5.alloc (.cells #[.string ⟨U.toArray⟩, .slice A6 q.length c6] 32) = w6 at *
        clear K2
        obtain ⟨x0, x1, x2, x3, x4, x5, x6, x7, x8, x9, x10, x11, x12⟩ := job_cells K3.out.now.1.1.1
        obtain ⟨y0, y1⟩ := txt_cells K3.out.now.2.2
        have HVW := Lib.hid (fun wx hx => refTView_any A6 c6 wx.heap.size U q y hy wx (Nat.le_refl _) hx)
        have hv0 : (viewOf U q y).2 = 0 := by unfold viewOf; rw [if_pos HGU.out]
        rw [hv0] at HVW
        have hvl := view_len U q y
        go_upto_region 12 with (go_at_call 31; refine (HVW.out _ K3.out.now.2.1).mono ?_; rintro e w7 ⟨rfl, bb⟩; replace K3 := Lib.hid (K3.out.step bb); clear bb x0 x1 x2 x3 x4 x5 x6 x7 x8 x9 x10 x11 x12 y0 y1)
        clear HVW hv0
        have HAL := Lib.hid (fun wx => refPAlign (viewOf U q y).1 (by omega) ra wx)
        have hzl := alignM_le (viewOf U q y).1 ra
        generalize (viewOf U q y).1 = V at *
        generalize alignM V ra = z at *
        have hb0 : Below w7.heap.size w7 w7 := Below.refl _ _
        have hbz : Below w7.heap.size w7 w7.drew := below_drewN hb0 1
        have KS9 : Hid (∀ w', Below w7.heap.size w7 w' → w'.cell? ⟨h1, 9, none⟩ = some (.int .i64 ra)) := fun w' hb => (out_cells (K3.out w' hb).1.2.2).1.2.2.2.2.2.2.2.2.2
        go_cut [62] (fun s62 wq => s62 = .bool ((z : Int) != ra) ∧ Below w7.heap.size w7 wq)
        case first =>
          refine wp_region_held_drew (S := fun w' => w'.cell? ⟨h1, 9, none⟩ = some (.int .i64 ra)) (by kernel_rfl) (KS9.out _ hbz) (fun hHeld => ?_)
          refine wpAnyH_take (i := 0) (v := ?_) rfl (by kernel_rfl) (by kernel_rfl) (by kernel_rfl) (fun _ _ _ h => h) (Or.inl ⟨by rfl, ?_⟩) (by assumption) ?_
          rotate_left
          · (intro w hSw; have q0 := hSw; go_simp; (try with_reducible rfl))
          (try simp only [List.getElem_toArray, List.getElem_cons_zero, Act.put, List.setIfInBounds_toArray, List.set_cons_zero, List.set_cons_succ])
          refine wpAnyH_take (i := 1) (v := ?_) rfl (by kernel_rfl) (by kernel_rfl) (by kernel_rfl) (fun _ _ _ h => h) (Or.inl ⟨by rfl, ?_⟩) (by assumption) ?_
          rotate_left
          · (intro w hSw; have q0 := hSw; go_simp; (try with_reducible rfl))
          (try simp only [List.getElem_toArray, List.getElem_cons_zero, List.getElem_cons_succ, Act.put, List.setIfInBounds_toArray, List.set_cons_zero, List.set_cons_succ])
          refine wpAnyH_take (i := 2) (v := ?_) rfl (by kernel_rfl) (by kernel_rfl) (by kernel_rfl) (fun _ _ _ h => h) (Or.inl ⟨by rfl, ?_⟩) (by assumption) ?_
          rotate_left
          · (intro w hSw; have q0 := hSw; go_simp; (try with_reducible rfl))
          (try simp only [List.getElem_toArray, List.getElem_cons_zero, List.getElem_cons_succ, Act.put, List.setIfInBounds_toArray, List.set_cons_zero, List.set_cons_succ])
          refine wpAnyH_take (i := 4) (v := ?_) rfl (by kernel_rfl) (by kernel_rfl) (by kernel_rfl) (fun _ _ _ h => h) (Or.inl ⟨by rfl, ?_⟩) (by assumption) ?_
          rotate_left
          · (intro w hSw; have q0 := hSw; go_simp; (try with_reducible rfl))
          (try simp only [List.getElem_toArray, List.getElem_cons_zero, List.getElem_cons_succ, Act.put, List.setIfInBounds_toArray, List.set_cons_zero, List.set_cons_succ])
          refine wpAnyH_take (i := 5) (v := ?_) rfl (by kernel_rfl) (by kernel_rfl) (by kernel_rfl) (fun _ _ _ h => h) (Or.inl ⟨by rfl, ?_⟩) (by assumption) ?_
          rotate_left
          · (intro w hSw; have q0 := hSw; go_simp; (try with_reducible rfl))
          (try simp only [List.getElem_toArray, List.getElem_cons_zero, List.getElem_cons_succ, Act.put, List.setIfInBounds_toArray, List.set_cons_zero, List.set_cons_succ])
          refine wpAnyH_ready (rs := [3]) (by kernel_rfl) (by simp) ?_
          refine AllReadyH.cons rfl (fun K hK => ?_) AllReadyH.nil
          go_simp
          refine (HAL.out _).mono ?_
          rintro ee w8 ⟨rfl, hb1⟩
          have hbx : Below w7.heap.size w7 w8 := hbz.trans (hb1.mono hbz.size)
          (try go_wp2_with fail)
          refine hK.out _ _ (KS9.out _ hbx) (fun hHeld => ?_)
          clear hK K
          (try simp only [List.getElem_toArray, List.getElem_cons_zero, List.getElem_cons_succ, Act.put, List.setIfInBounds_toArray, List.set_cons_zero, List.set_cons_succ])
          refine wpAnyH_take (i := 6) (v := ?_) rfl (by kernel_rfl) (by kernel_rfl) (by kernel_rfl) (fun _ _ _ h => h) (Or.inl ⟨by rfl, ?_⟩) (by assumption) ?_
          rotate_left
          · (intro w hSw; have q0 := hSw; go_simp; (try with_reducible rfl))
          (try simp only [List.getElem_toArray, List.getElem_cons_zero, List.getElem_cons_succ, Act.put, List.setIfInBounds_toArray, List.set_cons_zero, List.set_cons_succ])
          refine wpAnyH_done (by kernel_rfl) ?_ _
          go_wp2_with fail
          go_meet
          exact ⟨rfl, hbx⟩
        case rest =>
          obtain ⟨rfl, hbx⟩ := hcut
          replace K3 := Lib.hid (K3.out.step hbx)
          clear hbx KS9 HAL hb0 hbz
          by_cases hz : (z : Int) = ra
          · have hz1 : ((z : Int) != ra) = false := by rw [bne_eq_false_iff_eq]; exact hz
            obtain ⟨hp0, E2, hpe, hpa⟩ := HRS.out hz
            have HPE := Lib.hid (And.intro hp0 (And.intro hpe hpa))
            have HRA : Hid (-9223372036854775808 ≤ ra ∧ ra ≤ 9223372036854775807) := ⟨by omega, by omega⟩
            clear hz hp0 hpe hpa HRS
            have sU := good_small HGU.out
            have sR := good_small HGR.out
            have HL2 := Lib.hid (fun wx (hb : Below w.heap.size w wx) (h1 : Txu wx A6 U q) (h2 : Txu wx C4 RS rl) (hra : -9223372036854775808 ≤ ra ∧ ra ≤ 9223372036854775807) => HS.out.put A6 C4 c6 g4 U RS q rl y ra false true 1 wx hb h1 h2 sU.1 sU.2 sR.1 sR.2 hy hra (by decide))
            have HO2 := Lib.hid (okO_put (S := U) (l := q) HOU.out.2.1 hy ra RS HK.out.2.2.2.1 false true 1)
            clear sU sR
            obtain ⟨v2, hv2⟩ : ∃ v2, putM U q y ra RS rl false true 1 = v2 := ⟨_, rfl⟩
            rw [hv2] at HPE HL2 HO2
            clear hv2
            obtain ⟨⟨⟨ea2, ES2, el2, EX2, em2⟩, RS2, rl2, bl2, bw2, ra2⟩, rn2⟩ := v2
            obtain ⟨hp0, hpe, hpa⟩ := HPE.out
            dsimp only at hp0 hpe
            subst hp0 hpe
            dsimp only at hpa
            have HPA := Lib.hid hpa
            clear hpa HPE
            obtain ⟨k1, k2, k3⟩ := HO2.out
            have HK2 := Lib.hid (And.intro k1 (And.intro k2 k3))
            clear k1 k2 k3 HO2
            obtain ⟨x0, x1, x2, x3, x4, x5, x6, x7, x8, x9, x10, x11, x12⟩ := job_cells K3.out.now.1.1.1
            obtain ⟨⟨p0, p1, p2, p3, p4, p5, p6, p7, p8, p9⟩, _⟩ := out_cells K3.out.now.1.2.2
            obtain ⟨y0, y1⟩ := txt_cells K3.out.now.2.2
            go_upto_region 15 with (go_at_call 22; refine (HL2.out _ K3.out.now.1.1.2.1 K3.out.now.2.1 K3.out.now.1.2.1.2.2 HRA.out).mono ?_; rintro e w9 ⟨A5, c5, B5, d5, C5, g5, rfl, rA, rB, rC, bb⟩; dsimp only at rA rB rC ⊢; have Kr := Lib.hid (Grow.alloc ((grow_txu (wx := w9) (OkT.txt2 HK2.out.1 rA)).and (grow_txu (wx := w9) (OkT.txt2 HK2.out.2.1 rB))) (.cells #[.int .i64 ea2, .string ⟨ES2.toArray⟩, .slice A5 el2.length c5, .string ⟨EX2.toArray⟩, .slice B5 em2.length d5, .string ⟨RS2.toArray⟩, .slice C5 rl2.length g5, .bool bl2, .bool bw2, .int .i64 ra2] 43)); have K4 := Lib.hid (((K3.out.step bb).alloc (.cells #[.int .i64 ea2, .string ⟨ES2.toArray⟩, .slice A5 el2.length c5, .string ⟨EX2.toArray⟩, .slice B5 em2.length d5, .string ⟨RS2.toArray⟩, .slice C5 rl2.length g5, .bool bl2, .bool bw2, .int .i64 ra2] 43)).and (Kr.out.and (grow_new w9 43 #[.int .i64 ea2, .string ⟨ES2.toArray⟩, .slice A5 el2.length c5, .string ⟨EX2.toArray⟩, .slice B5 em2.length d5, .string ⟨RS2.toArray⟩, .slice C5 rl2.length g5, .bool bl2, .bool bw2, .int .i64 ra2]))); clear bb rA rB rC Kr x0 x1 x2 x3 x4 x5 x6 x7 x8 x9 x10 x11 x12 p0 p1 p2 p3 p4 p5 p6 p7 p8 p9 y0 y1)
            change Code.wp _ _ _ _ (w9.alloc (.cells #[.int .i64 ea2, .string ⟨ES2.toArray⟩, .slice A5 el2.length c5, .string ⟨EX2.toArray⟩, .slice B5 em2.length d5, .string ⟨RS2.toArray⟩, .slice C5 rl2.length g5, .bool bl2, .bool bw2, .int .i64 ra2] 43))
            generalize w9.heap.size = h3 at *
            generalize w9.alloc (.cells #[.int .i64 ea2, .string ⟨ES2.toArray⟩, .slice A5 el2.length c5, .string ⟨EX2.toArray⟩, .slice B5 em2.length d5, .string ⟨RS2.toArray⟩, .slice C5 rl2.length g5, .bool bl2, .bool bw2, .int .i64 ra2] 43) = wd at *
            clear K3 HL2
            obtain ⟨⟨p0, p1, p2, p3, p4, p5, p6, p7, p8, p9⟩, _⟩ := out_cells K4.out.now.2.2
            obtain ⟨y0, y1⟩ := txt_cells K4.out.now.1.2.2
            go_upto_region 16 with (go_at_call 25; refine (refEApply_any A6 A5 B5 c6 c5 d5 U q ea2 ES2 el2 EX2 em2 _ K4.out.now.1.2.1 K4.out.now.2.1.1 K4.out.now.2.1.2).mono ?_; rw [HPA.out]; rintro e wf ⟨A7, c7, rfl, own7, bb⟩; dsimp only at own7 ⊢; have TS := Lib.hid (Grow.alloc (grow_txu (wx := wf) (⟨(K4.out.now.1.1.1.2.2).hS, (K4.out.now.1.1.1.2.2).hf, (K4.out.now.1.1.1.2.2).hl, Row.of_own own7⟩ : Txu wf A7 S l)) (.cells #[.string ⟨S.toArray⟩, .slice A7 l.length c7] 32)); have K5 := Lib.hid (((K4.out.step bb).alloc (.cells #[.string ⟨S.toArray⟩, .slice A7 l.length c7] 32)).and (TS.out.and (grow_new wf 32 #[.string ⟨S.toArray⟩, .slice A7 l.length c7]))); clear bb own7 TS p0 p1 p2 p3 p4 p5 p6 p7 p8 p9 y0 y1)
            generalize wf.heap.size = h4 at *
            generalize wf.alloc (.cells #[.string ⟨S.toArray⟩, .slice A7 l.length c7] 32) = wg at *
            clear K4
            obtain ⟨x0, x1, x2, x3, x4, x5, x6, x7, x8, x9, x10, x11, x12⟩ := job_cells K5.out.now.1.1.1.1.1
            obtain ⟨y0, y1⟩ := txt_cells K5.out.now.2.2
            go_wp2_with (go_at_call 27; refine (refTSame_any A7 A c7 c _ _ S S l l _ (Nat.le_refl _) (Nat.le_refl _) K5.out.now.2.1 K5.out.now.1.1.1.1.2.2).mono ?_; rw [show decide (S = S ∧ l = l) = true from decide_eq_true ⟨rfl, rfl⟩]; rintro e wh ⟨rfl, bb⟩; replace K5 := Lib.hid (K5.out.step bb); clear bb)
            go_ret
            exact ⟨rfl, K5.out.now.1.1.1.1.2.1⟩
          · have hz1 : ((z : Int) != ra) = true := by rw [bne_iff_ne]; exact hz
            go_wp2_with fail
            go_ret
            exact ⟨rfl, K3.out.now.1.1.2.1⟩
      · have g1 : ((rn : Int) != 0) = true := by rw [bne_iff_ne]; omega
        go_wp2_with fail
        go_ret
        exact ⟨rfl, K2.out.now.1.2.1⟩
end Go.Proofs.YtgpmfkedcoiopaaGreatDoor

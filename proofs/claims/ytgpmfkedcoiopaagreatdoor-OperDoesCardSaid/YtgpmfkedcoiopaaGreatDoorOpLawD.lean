/-
  Package oper's answer is the document's: layer 14, OperDoes.
-/
import Derived.Test.YtgpmfkedcoiopaaGreatDoorM14e
namespace Go.Proofs.YtgpmfkedcoiopaaGreatDoor
open Go.RowKit
set_option maxRecDepth 100000
set_option maxHeartbeats 8000000 in
theorem operDoes_walk (w : World) (KS : OperSays w) (S : List UInt8) (A : Option Addr) (l : List RunP) (c y : Nat) (hy : y < 18446744073709551616) (op f t : Int) (hop : -2147483648 ≤ op ∧ op ≤ 2147483647) (hf : -9223372036854775808 ≤ f ∧ f ≤ 9223372036854775807) (ht : -9223372036854775808 ≤ t ∧ t ≤ 9223372036854775807) (b : Bool) (p n : Int) (_hp : -9223372036854775808 ≤ p ∧ p ≤ 9223372036854775807) (_hn : -9223372036854775808 ≤ n ∧ n ≤ 9223372036854775807) (X : List UInt8) (A2 : Option Addr) (m : List RunP) (c2 : Nat) (xb ah : Bool) (h : Txu w A S l) (hX : Txu w A2 X m) :
    Calls Tryz.prog 4 #[.agg (jobC S A l c y op f t b p n X A2 m c2 xb ah)] w fun e w' => e = .returned (.bool true) ∧ Below w.heap.size w w' := by
  have HS := Lib.hid KS
  have HFJ := Lib.hid (fun wx => lawFitsJ_any S A l c y op f t b p n X A2 m c2 xb ah hX.hS hX.hl wx)
  have HFT : Hid (fitsJ S l X m = true → S.length ≤ 5000 ∧ l.length ≤ 5000 ∧ X.length ≤ 5000 ∧ m.length ≤ 5000) := fun e => by
    unfold fitsJ at e
    simp only [Bool.and_eq_true, decide_eq_true_eq] at e
    omega
  have HOK := Lib.hid (okO_do (S := S) h.hf hy op f t b)
  have HFF := Lib.hid (And.intro h.hf hX.hf)
  generalize fitsJ S l X m = fj at *
  go_enter Tryz.func4, Tryz.ntmps4
  go_upto_region 1 with fail
  change Code.wp _ _ _ _ (w.alloc (.cells (jobC S A l c y op f t b p n X A2 m c2 xb ah) 38))
  have b0 : Below w.heap.size w (w.alloc (.cells (jobC S A l c y op f t b p n X A2 m c2 xb ah) 38)) := (Below.refl _ _).alloc (Nat.le_refl _) _
  have Kj := grow_new w 38 (jobC S A l c y op f t b p n X A2 m c2 xb ah)
  have Kb : Grow (w.alloc (.cells (jobC S A l c y op f t b p n X A2 m c2 xb ah) 38)) (fun w' => Below w.heap.size w w') := fun w' hb => b0.trans (hb.mono b0.size)
  have K := Lib.hid (Kj.and (Kb.and ((Grow.alloc (grow_txu h) _).and (Grow.alloc (grow_txu hX) _))))
  clear Kj Kb b0 h hX KS
  generalize w.alloc (.cells (jobC S A l c y op f t b p n X A2 m c2 xb ah) 38) = wb at *
  go_upto_region 3 with (go_at_call 12; refine (aliveP_any _ (HS.out.at K.out.now.2.1)).mono ?_; rintro e w1 ⟨rfl, bb⟩; replace K := Lib.hid (K.out.step bb); clear bb)
  obtain ⟨x0, x1, x2, x3, x4, x5, x6, x7, x8, x9, x10, x11, x12⟩ := job_cells K.out.now.1
  cases fj with
  | false =>
    go_wp2_with (go_at_call 15; refine (HFJ.out _).mono ?_; rintro e w2 ⟨rfl, bb⟩; replace K := Lib.hid (K.out.step bb); clear bb)
    go_ret
    exact ⟨rfl, K.out.now.2.1⟩
  | true =>
    obtain ⟨l1, l2, l3, l4⟩ := HFT.out rfl
    have HL1 := Lib.hid (fun wx (hb : Below w.heap.size w wx) (h1 : Txu wx A S l) (h2 : Txu wx A2 X m) => HS.out.do_ A c S l y op f t b wx hb h1 l1 l2 hy hop hf ht)
    have HR1 := Lib.hid (fun wx (h1 : Txu wx A S l) (h2 : Txu wx A2 X m) => refPDo_any A c S l y hy op f t b wx h1)
    clear l1 l2 l3 l4
    obtain ⟨v, hv⟩ : ∃ v, doM S l y op f t b = v := ⟨_, rfl⟩
    rw [hv] at HL1 HR1 HOK
    clear hv
    obtain ⟨⟨⟨ea, ES, el, EX, em⟩, RS, rl, bl, bw, ra⟩, rn⟩ := v
    obtain ⟨k1, k2, k3⟩ := HOK.out
    have HK := Lib.hid (And.intro k1 (And.intro k2 k3))
    clear k1 k2 k3 HOK
    go_upto_region 5 with (go_at_call 15; refine (HFJ.out _).mono ?_; rintro e w2 ⟨rfl, bb⟩; replace K := Lib.hid (K.out.step bb); clear bb x0 x1 x2 x3 x4 x5 x6 x7 x8 x9 x10 x11 x12)
    obtain ⟨x0, x1, x2, x3, x4, x5, x6, x7, x8, x9, x10, x11, x12⟩ := job_cells K.out.now.1
    go_upto_region 6 with (go_at_call 16; refine (HL1.out _ K.out.now.2.1 K.out.now.2.2.1 K.out.now.2.2.2).mono ?_; rintro e w3 ⟨A4, c4, B4, d4, C4, g4, rfl, rA, rB, rC, bb⟩; dsimp only at rA rB rC ⊢; have Kr := Lib.hid (Grow.alloc ((grow_txu (wx := w3) (OkT.txt2 HK.out.1 rA)).and ((grow_txu (wx := w3) (OkT.txt2 HK.out.2.1 rB)).and (grow_txu (wx := w3) (OkT.txt2 HK.out.2.2 rC)))) (.cells #[.int .i64 ea, .string ⟨ES.toArray⟩, .slice A4 el.length c4, .string ⟨EX.toArray⟩, .slice B4 em.length d4, .string ⟨RS.toArray⟩, .slice C4 rl.length g4, .bool bl, .bool bw, .int .i64 ra] 43)); have K2 := Lib.hid (((K.out.step bb).alloc (.cells #[.int .i64 ea, .string ⟨ES.toArray⟩, .slice A4 el.length c4, .string ⟨EX.toArray⟩, .slice B4 em.length d4, .string ⟨RS.toArray⟩, .slice C4 rl.length g4, .bool bl, .bool bw, .int .i64 ra] 43)).and (Kr.out.and (grow_new w3 43 #[.int .i64 ea, .string ⟨ES.toArray⟩, .slice A4 el.length c4, .string ⟨EX.toArray⟩, .slice B4 em.length d4, .string ⟨RS.toArray⟩, .slice C4 rl.length g4, .bool bl, .bool bw, .int .i64 ra]))); clear bb rA rB rC Kr x0 x1 x2 x3 x4 x5 x6 x7 x8 x9 x10 x11 x12)
    change Code.wp _ _ _ _ (w3.alloc (.cells #[.int .i64 ea, .string ⟨ES.toArray⟩, .slice A4 el.length c4, .string ⟨EX.toArray⟩, .slice B4 em.length d4, .string ⟨RS.toArray⟩, .slice C4 rl.length g4, .bool bl, .bool bw, .int .i64 ra] 43))
    generalize w3.heap.size = h1 at *
    generalize w3.alloc (.cells #[.int .i64 ea, .string ⟨ES.toArray⟩, .slice A4 el.length c4, .string ⟨EX.toArray⟩, .slice B4 em.length d4, .string ⟨RS.toArray⟩, .slice C4 rl.length g4, .bool bl, .bool bw, .int .i64 ra] 43) = w4 at *
    clear K HL1
    obtain ⟨x0, x1, x2, x3, x4, x5, x6, x7, x8, x9, x10, x11, x12⟩ := job_cells K2.out.now.1.1
    go_upto_region 7 with (go_at_call 17; refine (HR1.out _ K2.out.now.1.2.2.1 K2.out.now.1.2.2.2).mono ?_; rintro e w5 ⟨A5, c5, B5, d5, C5, g5, rfl, rA, rB, rC, bb⟩; dsimp only at rA rB rC ⊢; have Kr := Lib.hid (Grow.alloc ((grow_txu (wx := w5) (OkT.txt2 HK.out.1 rA)).and ((grow_txu (wx := w5) (OkT.txt2 HK.out.2.1 rB)).and (grow_txu (wx := w5) (OkT.txt2 HK.out.2.2 rC)))) (.cells #[.int .i64 ea, .string ⟨ES.toArray⟩, .slice A5 el.length c5, .string ⟨EX.toArray⟩, .slice B5 em.length d5, .string ⟨RS.toArray⟩, .slice C5 rl.length g5, .bool bl, .bool bw, .int .i64 ra] 47)); have K3 := Lib.hid (((K2.out.step bb).alloc (.cells #[.int .i64 ea, .string ⟨ES.toArray⟩, .slice A5 el.length c5, .string ⟨EX.toArray⟩, .slice B5 em.length d5, .string ⟨RS.toArray⟩, .slice C5 rl.length g5, .bool bl, .bool bw, .int .i64 ra] 47)).and (Kr.out.and (grow_new w5 47 #[.int .i64 ea, .string ⟨ES.toArray⟩, .slice A5 el.length c5, .string ⟨EX.toArray⟩, .slice B5 em.length d5, .string ⟨RS.toArray⟩, .slice C5 rl.length g5, .bool bl, .bool bw, .int .i64 ra]))); clear bb rA rB rC Kr x0 x1 x2 x3 x4 x5 x6 x7 x8 x9 x10 x11 x12)
    change Code.wp _ _ _ _ (w5.alloc (.cells #[.int .i64 ea, .string ⟨ES.toArray⟩, .slice A5 el.length c5, .string ⟨EX.toArray⟩, .slice B5 em.length d5, .string ⟨RS.toArray⟩, .slice C5 rl.length g5, .bool bl, .bool bw, .int .i64 ra] 47))
    generalize w5.heap.size = h2 at *
    generalize w5.alloc (.cells #[.int .i64 ea, .string ⟨ES.toArray⟩, .slice A5 el.length c5, .string ⟨EX.toArray⟩, .slice B5 em.length d5, .string ⟨RS.toArray⟩, .slice C5 rl.length g5, .bool bl, .bool bw, .int .i64 ra] 47) = w6 at *
    clear K2 HR1 HFJ HFT HS HFF
    have hb0 : Below w6.heap.size w6 w6 := Below.refl _ _
    have hbz : Below w6.heap.size w6 w6.drew := below_drewN hb0 1
    have KS : Hid (∀ w', Below w6.heap.size w6 w' → (w'.cell? ⟨h1, 0, none⟩ = some (.int .i64 ea) ∧ w'.cell? ⟨h1, 1, none⟩ = some (.string ⟨ES.toArray⟩) ∧ w'.cell? ⟨h1, 2, none⟩ = some (.slice A4 el.length c4) ∧ w'.cell? ⟨h1, 3, none⟩ = some (.string ⟨EX.toArray⟩) ∧ w'.cell? ⟨h1, 4, none⟩ = some (.slice B4 em.length d4) ∧ w'.cell? ⟨h1, 5, none⟩ = some (.string ⟨RS.toArray⟩) ∧ w'.cell? ⟨h1, 6, none⟩ = some (.slice C4 rl.length g4) ∧ w'.cell? ⟨h1, 7, none⟩ = some (.bool bl) ∧ w'.cell? ⟨h1, 8, none⟩ = some (.bool bw) ∧ w'.cell? ⟨h1, 9, none⟩ = some (.int .i64 ra)) ∧ (w'.cell? ⟨h2, 0, none⟩ = some (.int .i64 ea) ∧ w'.cell? ⟨h2, 1, none⟩ = some (.string ⟨ES.toArray⟩) ∧ w'.cell? ⟨h2, 2, none⟩ = some (.slice A5 el.length c5) ∧ w'.cell? ⟨h2, 3, none⟩ = some (.string ⟨EX.toArray⟩) ∧ w'.cell? ⟨h2, 4, none⟩ = some (.slice B5 em.length d5) ∧ w'.cell? ⟨h2, 5, none⟩ = some (.string ⟨RS.toArray⟩) ∧ w'.cell? ⟨h2, 6, none⟩ = some (.slice C5 rl.length g5) ∧ w'.cell? ⟨h2, 7, none⟩ = some (.bool bl) ∧ w'.cell? ⟨h2, 8, none⟩ = some (.bool bw) ∧ w'.cell? ⟨h2, 9, none⟩ = some (.int .i64 ra))) := fun w' hb => ⟨(out_cells (K3.out w' hb).1.2.2).1, (out_cells (K3.out w' hb).2.2).1⟩
    have HOU := Lib.hid (fun wx => lawOurs_any ea ES A4 el c4 EX B4 em d4 RS C4 rl g4 bl bw ra wx)
    have HSA : Hid (∀ wx, Below w6.heap.size w6 wx → Calls Tryz.prog 18 #[.agg #[.int .i64 ea, .string ⟨ES.toArray⟩, .slice A4 el.length c4, .string ⟨EX.toArray⟩, .slice B4 em.length d4, .string ⟨RS.toArray⟩, .slice C4 rl.length g4, .bool bl, .bool bw, .int .i64 ra], .agg #[.int .i64 ea, .string ⟨ES.toArray⟩, .slice A5 el.length c5, .string ⟨EX.toArray⟩, .slice B5 em.length d5, .string ⟨RS.toArray⟩, .slice C5 rl.length g5, .bool bl, .bool bw, .int .i64 ra]] wx fun e w' => e = .returned (.bool true) ∧ Below wx.heap.size wx w') := fun wx hb => by
      have k1 := (K3.out wx hb).1.2.1
      have k2 := (K3.out wx hb).2.1
      exact refPSame_any A4 B4 C4 A5 B5 C5 c4 d4 g4 c5 d5 g5 ea ES el EX em RS rl bl bw ra wx k1.1 k1.2.1 k1.2.2 k2.1 k2.2.1 k2.2.2
    refine wp_region_held_drew (S := fun w' => (w'.cell? ⟨h1, 0, none⟩ = some (.int .i64 ea) ∧ w'.cell? ⟨h1, 1, none⟩ = some (.string ⟨ES.toArray⟩) ∧ w'.cell? ⟨h1, 2, none⟩ = some (.slice A4 el.length c4) ∧ w'.cell? ⟨h1, 3, none⟩ = some (.string ⟨EX.toArray⟩) ∧ w'.cell? ⟨h1, 4, none⟩ = some (.slice B4 em.length d4) ∧ w'.cell? ⟨h1, 5, none⟩ = some (.string ⟨RS.toArray⟩) ∧ w'.cell? ⟨h1, 6, none⟩ = some (.slice C4 rl.length g4) ∧ w'.cell? ⟨h1, 7, none⟩ = some (.bool bl) ∧ w'.cell? ⟨h1, 8, none⟩ = some (.bool bw) ∧ w'.cell? ⟨h1, 9, none⟩ = some (.int .i64 ra)) ∧ (w'.cell? ⟨h2, 0, none⟩ = some (.int .i64 ea) ∧ w'.cell? ⟨h2, 1, none⟩ = some (.string ⟨ES.toArray⟩) ∧ w'.cell? ⟨h2, 2, none⟩ = some (.slice A5 el.length c5) ∧ w'.cell? ⟨h2, 3, none⟩ = some (.string ⟨EX.toArray⟩) ∧ w'.cell? ⟨h2, 4, none⟩ = some (.slice B5 em.length d5) ∧ w'.cell? ⟨h2, 5, none⟩ = some (.string ⟨RS.toArray⟩) ∧ w'.cell? ⟨h2, 6, none⟩ = some (.slice C5 rl.length g5) ∧ w'.cell? ⟨h2, 7, none⟩ = some (.bool bl) ∧ w'.cell? ⟨h2, 8, none⟩ = some (.bool bw) ∧ w'.cell? ⟨h2, 9, none⟩ = some (.int .i64 ra))) (by kernel_rfl) (KS.out _ hbz) (fun hHeld => ?_)
    refine wpAnyH_take (i := 0) (v := ?_) rfl (by kernel_rfl) (by kernel_rfl) (by kernel_rfl) (fun _ _ _ h => h) (Or.inl ⟨by rfl, ?_⟩) (by assumption) ?_
    rotate_left
    · (intro w hSw; obtain ⟨⟨q0, q1, q2, q3, q4, q5, q6, q7, q8, q9⟩, s0, s1, s2, s3, s4, s5, s6, s7, s8, s9⟩ := hSw; go_simp; (try with_reducible rfl))
    (try simp only [List.getElem_toArray, List.getElem_cons_zero, Act.put, List.setIfInBounds_toArray, List.set_cons_zero, List.set_cons_succ])
    refine wpAnyH_take (i := 2) (v := ?_) rfl (by kernel_rfl) (by kernel_rfl) (by kernel_rfl) (fun _ _ _ h => h) (Or.inl ⟨by rfl, ?_⟩) (by assumption) ?_
    rotate_left
    · (intro w hSw; obtain ⟨⟨q0, q1, q2, q3, q4, q5, q6, q7, q8, q9⟩, s0, s1, s2, s3, s4, s5, s6, s7, s8, s9⟩ := hSw; go_simp; (try with_reducible rfl))
    (try simp only [List.getElem_toArray, List.getElem_cons_zero, List.getElem_cons_succ, Act.put, List.setIfInBounds_toArray, List.set_cons_zero, List.set_cons_succ])
    refine wpAnyH_ready (rs := [1]) (by kernel_rfl) (by simp) ?_
    refine AllReadyH.cons rfl (fun K hK => ?_) AllReadyH.nil
    go_simp
    refine (HOU.out _).mono ?_
    rintro ee w7 ⟨rfl, hb1⟩
    have hbx : Below w6.heap.size w6 w7 := hbz.trans (hb1.mono hbz.size)
    (try go_wp2_with fail)
    refine hK.out _ _ (KS.out _ hbx) (fun hHeld => ?_)
    clear hK K
    (try simp only [List.getElem_toArray, List.getElem_cons_zero, List.getElem_cons_succ, Act.put, List.setIfInBounds_toArray, List.set_cons_zero, List.set_cons_succ])
    refine wpAnyH_ready (rs := [3]) (by kernel_rfl) (by simp) ?_
    refine AllReadyH.cons rfl (fun K hK => ?_) AllReadyH.nil
    go_simp
    refine (HSA.out _ hbx).mono ?_
    rintro ee w8 ⟨rfl, hb2⟩
    have hby : Below w6.heap.size w6 w8 := hbx.trans (hb2.mono hbx.size)
    (try go_wp2_with fail)
    refine hK.out _ _ (KS.out _ hby) (fun hHeld => ?_)
    clear hK K
    (try simp only [List.getElem_toArray, List.getElem_cons_zero, List.getElem_cons_succ, Act.put, List.setIfInBounds_toArray, List.set_cons_zero, List.set_cons_succ])
    refine wpAnyH_take (i := 4) (v := ?_) rfl (by kernel_rfl) (by kernel_rfl) (by kernel_rfl) (fun _ _ _ h => h) (Or.inl ⟨by rfl, ?_⟩) (by assumption) ?_
    rotate_left
    · (intro w hSw; obtain ⟨⟨q0, q1, q2, q3, q4, q5, q6, q7, q8, q9⟩, s0, s1, s2, s3, s4, s5, s6, s7, s8, s9⟩ := hSw; go_simp; (try with_reducible rfl))
    (try simp only [List.getElem_toArray, List.getElem_cons_zero, List.getElem_cons_succ, Act.put, List.setIfInBounds_toArray, List.set_cons_zero, List.set_cons_succ])
    refine wpAnyH_take (i := 5) (v := ?_) rfl (by kernel_rfl) (by kernel_rfl) (by kernel_rfl) (fun _ _ _ h => h) (Or.inl ⟨by rfl, ?_⟩) (by assumption) ?_
    rotate_left
    · (intro w hSw; obtain ⟨⟨q0, q1, q2, q3, q4, q5, q6, q7, q8, q9⟩, s0, s1, s2, s3, s4, s5, s6, s7, s8, s9⟩ := hSw; go_simp; (try with_reducible rfl))
    (try simp only [List.getElem_toArray, List.getElem_cons_zero, List.getElem_cons_succ, Act.put, List.setIfInBounds_toArray, List.set_cons_zero, List.set_cons_succ])
    refine wpAnyH_take (i := 6) (v := ?_) rfl (by kernel_rfl) (by kernel_rfl) (by kernel_rfl) (fun _ _ _ h => h) (Or.inl ⟨by rfl, ?_⟩) (by assumption) ?_
    rotate_left
    · (intro w hSw; obtain ⟨⟨q0, q1, q2, q3, q4, q5, q6, q7, q8, q9⟩, s0, s1, s2, s3, s4, s5, s6, s7, s8, s9⟩ := hSw; go_simp; (try with_reducible rfl))
    (try simp only [List.getElem_toArray, List.getElem_cons_zero, List.getElem_cons_succ, Act.put, List.setIfInBounds_toArray, List.set_cons_zero, List.set_cons_succ])
    refine wpAnyH_take (i := 7) (v := ?_) rfl (by kernel_rfl) (by kernel_rfl) (by kernel_rfl) (fun _ _ _ h => h) (Or.inl ⟨by rfl, ?_⟩) (by assumption) ?_
    rotate_left
    · (intro w hSw; obtain ⟨⟨q0, q1, q2, q3, q4, q5, q6, q7, q8, q9⟩, s0, s1, s2, s3, s4, s5, s6, s7, s8, s9⟩ := hSw; go_simp; (try with_reducible rfl))
    (try simp only [List.getElem_toArray, List.getElem_cons_zero, List.getElem_cons_succ, Act.put, List.setIfInBounds_toArray, List.set_cons_zero, List.set_cons_succ])
    refine wpAnyH_take (i := 8) (v := ?_) rfl (by kernel_rfl) (by kernel_rfl) (by kernel_rfl) (fun _ _ _ h => h) (Or.inl ⟨by rfl, ?_⟩) (by assumption) ?_
    rotate_left
    · (intro w hSw; obtain ⟨⟨q0, q1, q2, q3, q4, q5, q6, q7, q8, q9⟩, s0, s1, s2, s3, s4, s5, s6, s7, s8, s9⟩ := hSw; go_simp; (try with_reducible rfl))
    (try simp only [List.getElem_toArray, List.getElem_cons_zero, List.getElem_cons_succ, Act.put, List.setIfInBounds_toArray, List.set_cons_zero, List.set_cons_succ])
    refine wpAnyH_take (i := 9) (v := ?_) rfl (by kernel_rfl) (by kernel_rfl) (by kernel_rfl) (fun _ _ _ h => h) (Or.inl ⟨by rfl, ?_⟩) (by assumption) ?_
    rotate_left
    · (intro w hSw; obtain ⟨⟨q0, q1, q2, q3, q4, q5, q6, q7, q8, q9⟩, s0, s1, s2, s3, s4, s5, s6, s7, s8, s9⟩ := hSw; go_simp; (try with_reducible rfl))
    (try simp only [List.getElem_toArray, List.getElem_cons_zero, List.getElem_cons_succ, Act.put, List.setIfInBounds_toArray, List.set_cons_zero, List.set_cons_succ])
    refine wpAnyH_done (by kernel_rfl) ?_ _
    go_wp2_with fail
    go_ret
    exact ⟨by simp, (K3.out.step hby).now.1.1.2.1⟩
end Go.Proofs.YtgpmfkedcoiopaaGreatDoor

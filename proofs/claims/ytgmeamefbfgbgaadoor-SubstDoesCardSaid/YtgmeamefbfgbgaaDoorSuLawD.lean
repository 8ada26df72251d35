/-
  What comes in place of any text, in any lines, is the document's: layer 15, SubstDoes.
-/
import Derived.Test.YtgmeamefbfgbgaaDoorSuAlv2
import Derived.Test.YtgmeamefbfgbgaaDoorHsApply
import Derived.Test.YtgmeamefbfgbgaaDoorM07e
import Derived.Test.YtgmeamefbfgbgaaDoorSuLawI
import Derived.Test.YtgmeamefbfgbgaaDoorSuDo
import Derived.Deep.RegionHeld3
import Derived.Deep.DeepCutAuto
namespace Go.Proofs.YtgmeamefbfgbgaaDoor
open Go.RowKit
set_option maxRecDepth 100000

set_option maxHeartbeats 8000000 in
theorem substDoes_walk (w : World) (KS : SubstSays w) (A : Option Addr) (c : Nat) (S : List UInt8) (l : List RunP) (h : Txu w A S l) (y : Nat) (hy : y < 18446744073709551616) (a b : Int) (pat rep : List UInt8) (ev : Bool) (ha : -9223372036854775808 ≤ a ∧ a ≤ 9223372036854775807) (hb : -9223372036854775808 ≤ b ∧ b ≤ 9223372036854775807) (hp : pat.length ≤ maxLen) (hr : rep.length ≤ maxLen) :
    Calls Tryd.prog 3 #[.agg #[.string ⟨S.toArray⟩, .slice A l.length c], .int .u64 (y : Nat), .agg #[.int .i64 a, .int .i64 b, .string ⟨pat.toArray⟩, .string ⟨rep.toArray⟩, .bool ev]] w fun e w' => e = .returned (.bool true) ∧ Below w.heap.size w w' := by
  have HS := Lib.hid KS
  have HF := Lib.hid h.hf
  have HT := Lib.hid (grow_txu h)
  have K := Lib.hid (boxesE2 w 24 28 #[.string ⟨S.toArray⟩, .slice A l.length c] #[.int .i64 a, .int .i64 b, .string ⟨pat.toArray⟩, .string ⟨rep.toArray⟩, .bool ev])
  have HFS := Lib.hid (fun wx => lawFitS_any A c S l a b pat rep ev hp hr wx)
  have HFF := Lib.hid (fitS_facts (S := S) (l := l) (pat := pat) (rep := rep))
  unfold maxLen at hp hr
  generalize fitS S l pat rep = fj at *
  clear h KS
  go_enter Tryd.func3, Tryd.ntmps3
  go_upto_region 1 with fail
  generalize (w.alloc (.cells #[.string ⟨S.toArray⟩, .slice A l.length c] 24)).alloc (.cells #[.int .i64 a, .int .i64 b, .string ⟨pat.toArray⟩, .string ⟨rep.toArray⟩, .bool ev] 28) = wa at *
  go_upto_region 3 with (go_at_call 9; refine (aliveS_any _ (HS.out.at K.out.now.2.2)).mono ?_; rintro e w1 ⟨rfl, bb⟩; replace K := Lib.hid (K.out.step bb); clear bb)
  obtain ⟨y0, y1⟩ := txt_cells K.out.now.1
  obtain ⟨x0, x1, x2, x3, x4⟩ := job_cells15 K.out.now.2.1
  cases fj with
  | false =>
    go_wp2_with (go_at_call 10; refine (HFS.out _).mono ?_; rintro e w2 ⟨rfl, bb⟩; replace K := Lib.hid (K.out.step bb); clear bb)
    go_ret
    exact ⟨rfl, K.out.now.2.2⟩
  | true =>
    obtain ⟨l1, l2, l3, l4⟩ := HFF.out rfl
    go_upto_region 5 with (go_at_call 10; refine (HFS.out _).mono ?_; rintro e w2 ⟨rfl, bb⟩; replace K := Lib.hid (K.out.step bb); clear bb y0 y1 x0 x1 x2 x3 x4; obtain ⟨y0, y1⟩ := txt_cells K.out.now.1; obtain ⟨x0, x1, x2, x3, x4⟩ := job_cells15 K.out.now.2.1)
    have HD := Lib.hid (fun wx (hb0 : Below w.heap.size w wx) => HS.out.do_ A c S l y a b pat rep ev wx hb0 (HT.out _ hb0) l1 l2 hy ha hb l3 l4)
    have HRD := Lib.hid (fun wx hx => refSuDo_any A c S l y hy a b pat rep ev l3 l4 wx hx)
    have HOU := Lib.hid (fun wx => lawOursS_any a b pat rep ev wx)
    obtain ⟨v, hv⟩ : ∃ v, subS S l y a b pat rep ev = v := ⟨_, rfl⟩
    rw [hv] at HD HRD
    have HV := Lib.hid hv
    obtain ⟨⟨⟨ea, ES, el, EX, em⟩, n⟩, er⟩ := v
    have HO := Lib.hid (okS (S := S) (l := l) HF.out hy hv)
    clear hv
    go_upto_region 6 with (go_at_call 11; refine (HD.out _ K.out.now.2.2).mono ?_; rintro e w3 ⟨A4, c4, B4, d4, rfl, rA, rB, bb⟩; dsimp only at rA rB ⊢; have KE := Lib.hid ((K.out.step bb).evar (c := c4) (d := d4) (a := ea) (A := A4) (B := B4) (OkT.txt2 HO.out.1 rA) (OkT.txt2 HO.out.2 rB)); clear bb rA rB y0 y1 x0 x1 x2 x3 x4)
    generalize w3.heap.size = g3 at *
    generalize w3.alloc (.cells #[.int .i64 ea, .string ⟨ES.toArray⟩, .slice A4 el.length c4, .string ⟨EX.toArray⟩, .slice B4 em.length d4] 32) = w4 at *
    clear K
    have KC : Hid (∀ w', Below w4.heap.size w4 w' → ((w'.cell? ⟨w.heap.size, 0, none⟩ = some (.string ⟨S.toArray⟩) ∧ w'.cell? ⟨w.heap.size, 1, none⟩ = some (.slice A l.length c)) ∧ w'.cell? ⟨w.heap.size + 1, 0, none⟩ = some (.int .i64 a) ∧ w'.cell? ⟨w.heap.size + 1, 1, none⟩ = some (.int .i64 b) ∧ w'.cell? ⟨w.heap.size + 1, 2, none⟩ = some (.string ⟨pat.toArray⟩) ∧ w'.cell? ⟨w.heap.size + 1, 3, none⟩ = some (.string ⟨rep.toArray⟩) ∧ w'.cell? ⟨w.heap.size + 1, 4, none⟩ = some (.bool ev)) ∧ Below w4.heap.size w4 w') := fun w' hb' => ⟨⟨txt_cells (KE.out _ hb').2.1, job_cells15 (KE.out _ hb').2.2.1⟩, hb'⟩
    have BD : Below w4.heap.size w4 w4.drew := below_drewN (Below.refl _ _) 1
    have BA : Below w4.heap.size w4 (w4.alloc (.cells #[.int .i64 0, .string ⟨#[]⟩, .slice none 0 0, .string ⟨#[]⟩, .slice none 0 0] 32)).drew := below_drewN ((Below.refl _ _).alloc (Nat.le_refl _) _) 1
    have BW : Hid (∀ w', Below w4.heap.size w4 w' → Below w.heap.size w w') := fun w' hb' => (KE.out _ hb').2.2.2
    go_cut [10, 11, 12] (fun s10 s11 s12 wx => ∃ g9 A6 c6 B6 d6, s10 = .pointer (some ⟨g9, 0, none⟩) ∧ s11 = .int .i64 (n : Nat) ∧ s12 = .int .i64 (er : Nat) ∧ Blk wx g9 32 #[.int .i64 ea, .string ⟨ES.toArray⟩, .slice A6 el.length c6, .string ⟨EX.toArray⟩, .slice B6 em.length d6] ∧ Txu wx A6 ES el ∧ Txu wx B6 EX em ∧ Below w4.heap.size w4 wx)
    case first =>
      refine wp_region_held_drew (S := fun w' => ((w'.cell? ⟨w.heap.size, 0, none⟩ = some (.string ⟨S.toArray⟩) ∧ w'.cell? ⟨w.heap.size, 1, none⟩ = some (.slice A l.length c)) ∧ w'.cell? ⟨w.heap.size + 1, 0, none⟩ = some (.int .i64 a) ∧ w'.cell? ⟨w.heap.size + 1, 1, none⟩ = some (.int .i64 b) ∧ w'.cell? ⟨w.heap.size + 1, 2, none⟩ = some (.string ⟨pat.toArray⟩) ∧ w'.cell? ⟨w.heap.size + 1, 3, none⟩ = some (.string ⟨rep.toArray⟩) ∧ w'.cell? ⟨w.heap.size + 1, 4, none⟩ = some (.bool ev)) ∧ Below w4.heap.size w4 w') (by kernel_rfl) (KC.out _ BD) (fun hHeld => ?_)
      refine wpAnyH_take (i := 0) (v := ?_) rfl (by kernel_rfl) (by kernel_rfl) (by kernel_rfl) (fun _ _ _ h => h) (Or.inl ⟨by rfl, ?_⟩) (by assumption) ?_
      rotate_left
      · (intro w hSw; obtain ⟨⟨⟨q0, q1⟩, s0, s1, s2, s3, s4⟩, q9⟩ := hSw; go_simp; (try with_reducible rfl))
      (try simp only [List.getElem_toArray, List.getElem_cons_zero, Act.put, List.setIfInBounds_toArray, List.set_cons_zero, List.set_cons_succ])
      refine wpAnyH_take (i := 1) (v := ?_) rfl (by kernel_rfl) (by kernel_rfl) (by kernel_rfl) (fun _ _ _ h => h) (Or.inl ⟨by rfl, ?_⟩) (by assumption) ?_
      rotate_left
      · (intro w hSw; obtain ⟨⟨⟨q0, q1⟩, s0, s1, s2, s3, s4⟩, q9⟩ := hSw; go_simp; (try with_reducible rfl))
      (try simp only [List.getElem_toArray, List.getElem_cons_zero, List.getElem_cons_succ, Act.put, List.setIfInBounds_toArray, List.set_cons_zero, List.set_cons_succ])
      refine wpAnyH_take (i := 2) (v := ?_) rfl (by kernel_rfl) (by kernel_rfl) (by kernel_rfl) (fun _ _ _ h => h) (Or.inl ⟨by rfl, ?_⟩) (by assumption) ?_
      rotate_left
      · (intro w hSw; obtain ⟨⟨⟨q0, q1⟩, s0, s1, s2, s3, s4⟩, q9⟩ := hSw; go_simp; (try with_reducible rfl))
      (try simp only [List.getElem_toArray, List.getElem_cons_zero, List.getElem_cons_succ, Act.put, List.setIfInBounds_toArray, List.set_cons_zero, List.set_cons_succ])
      refine wpAnyH_ready (rs := [3, 9]) (by kernel_rfl) (by simp) ?_
      refine AllReadyH.cons rfl (fun K hK => ?_) (AllReadyH.cons rfl (fun K hK => ?_) AllReadyH.nil)
      · go_simp
        refine (HOU.out _).mono ?_
        rintro ee wo ⟨rfl, bo⟩
        have BO : Below w4.heap.size w4 wo := BD.trans (bo.mono BD.size)
        (try go_wp2_with fail)
        refine hK.out _ _ (KC.out _ BO) (fun hHeld => ?_)
        clear hK K
        (try simp only [List.getElem_toArray, List.getElem_cons_zero, List.getElem_cons_succ, Act.put, List.setIfInBounds_toArray, List.set_cons_zero, List.set_cons_succ])
        refine wpAnyH_ready (rs := [4, 9]) (by kernel_rfl) (by simp) ?_
        refine AllReadyH.cons rfl (fun K hK => ?_) (AllReadyH.cons rfl (fun K hK => ?_) AllReadyH.nil)
        · go_simp
          refine (HRD.out _ (HT.out _ (BW.out _ BO))).mono ?_
          rintro ee wd ⟨A6, c6, B6, d6, rfl, rA, rB, bd⟩
          dsimp only at rA rB ⊢
          have BX : Below w4.heap.size w4 wd := BO.trans (bd.mono BO.size)
          (try go_wp2_with fail)
          refine hK.out _ _ (KC.out _ BX) (fun hHeld => ?_)
          clear hK K
          (try simp only [List.getElem_toArray, List.getElem_cons_zero, List.getElem_cons_succ, Act.put, List.setIfInBounds_toArray, List.set_cons_zero, List.set_cons_succ])
          refine wpAnyH_take (i := 5) (v := ?_) rfl (by kernel_rfl) (by kernel_rfl) (by kernel_rfl) (fun _ _ _ h => h) (Or.inl ⟨by rfl, ?_⟩) (by assumption) ?_
          rotate_left
          · (intro w hSw; obtain ⟨⟨⟨q0, q1⟩, s0, s1, s2, s3, s4⟩, q9⟩ := hSw; go_simp; (try with_reducible rfl))
          (try simp only [List.getElem_toArray, List.getElem_cons_zero, List.getElem_cons_succ, Act.put, List.setIfInBounds_toArray, List.set_cons_zero, List.set_cons_succ])
          refine wpAnyH_take (i := 6) (v := ?_) rfl (by kernel_rfl) (by kernel_rfl) (by kernel_rfl) (fun _ _ _ h => h) (Or.inl ⟨by rfl, ?_⟩) (by assumption) ?_
          rotate_left
          · (intro w hSw; obtain ⟨⟨⟨q0, q1⟩, s0, s1, s2, s3, s4⟩, q9⟩ := hSw; go_simp; (try with_reducible rfl))
          (try simp only [List.getElem_toArray, List.getElem_cons_zero, List.getElem_cons_succ, Act.put, List.setIfInBounds_toArray, List.set_cons_zero, List.set_cons_succ])
          refine wpAnyH_take (i := 7) (v := ?_) rfl (by kernel_rfl) (by kernel_rfl) (by kernel_rfl) (fun _ _ _ h => h) (Or.inl ⟨by rfl, ?_⟩) (by assumption) ?_
          rotate_left
          · (intro w hSw; obtain ⟨⟨⟨q0, q1⟩, s0, s1, s2, s3, s4⟩, q9⟩ := hSw; go_simp; (try with_reducible rfl))
          (try simp only [List.getElem_toArray, List.getElem_cons_zero, List.getElem_cons_succ, Act.put, List.setIfInBounds_toArray, List.set_cons_zero, List.set_cons_succ])
          refine wpAnyH_take (i := 8) (v := ?_) rfl (by kernel_rfl) (by kernel_rfl) (by kernel_rfl) (fun _ _ _ h => h) (Or.inl ⟨by rfl, ?_⟩) (by assumption) ?_
          rotate_left
          · (intro w hSw; obtain ⟨⟨⟨q0, q1⟩, s0, s1, s2, s3, s4⟩, q9⟩ := hSw; go_simp; (try with_reducible rfl))
          (try simp only [List.getElem_toArray, List.getElem_cons_zero, List.getElem_cons_succ, Act.put, List.setIfInBounds_toArray, List.set_cons_zero, List.set_cons_succ])
          refine wpAnyH_ready (rs := [9]) (by kernel_rfl) (by simp) ?_
          refine AllReadyH.cons rfl (fun K hK => ?_) AllReadyH.nil
          go_simp
          have Q7 := Blk.new wd 32 #[.int .i64 0, .string ⟨#[]⟩, .slice none 0 0, .string ⟨#[]⟩, .slice none 0 0]
          have BY : Below w4.heap.size w4 (wd.alloc (.cells #[.int .i64 0, .string ⟨#[]⟩, .slice none 0 0, .string ⟨#[]⟩, .slice none 0 0] 32)) := BX.alloc BX.size _
          have hg7 : w4.heap.size ≤ wd.heap.size := BX.size
          replace rA := (rA.alloc (Nat.le_refl _) (.cells #[.int .i64 0, .string ⟨#[]⟩, .slice none 0 0, .string ⟨#[]⟩, .slice none 0 0] 32)).more (by simp : wd.heap.size ≤ (wd.alloc (.cells #[.int .i64 0, .string ⟨#[]⟩, .slice none 0 0, .string ⟨#[]⟩, .slice none 0 0] 32)).heap.size)
          replace rB := (rB.alloc (Nat.le_refl _) (.cells #[.int .i64 0, .string ⟨#[]⟩, .slice none 0 0, .string ⟨#[]⟩, .slice none 0 0] 32)).more (by simp : wd.heap.size ≤ (wd.alloc (.cells #[.int .i64 0, .string ⟨#[]⟩, .slice none 0 0, .string ⟨#[]⟩, .slice none 0 0] 32)).heap.size)
          refine hK.out _ _ (KC.out _ BY) (fun hHeld => ?_)
          clear hK K
          (try simp only [List.getElem_toArray, List.getElem_cons_zero, List.getElem_cons_succ, Act.put, List.setIfInBounds_toArray, List.set_cons_zero, List.set_cons_succ])
          generalize wd.heap.size = g7 at *
          generalize wd.alloc (.cells #[.int .i64 0, .string ⟨#[]⟩, .slice none 0 0, .string ⟨#[]⟩, .slice none 0 0] 32) = w7 at *
          have E7 := edit_end (w := w4) (A := A6) (A2 := B6) (l := el) (m := em) (s := ⟨ES.toArray⟩) (x := ⟨EX.toArray⟩) ea BY Q7 hg7 (rowN_noLab rA (Nat.le_refl _) Q7 (noLab_edit _ _ _ _ _ _ _ _ _)) (rowN_noLab rB (Nat.le_refl _) Q7 (noLab_edit _ _ _ _ _ _ _ _ _)) (.slice A6 el.length c6) (.slice B6 em.length d6)
          obtain ⟨e0, e1, e2, e3, e4⟩ := ed_cells Q7
          obtain ⟨f0, f1, f2, f3, f4⟩ := ed_frozen Q7
          refine wpAnyH_ready (rs := [10]) (by kernel_rfl) (by simp) ?_
          refine AllReadyH.cons rfl (fun K hK => ?_) AllReadyH.nil
          go_simp
          refine hK.out _ _ (KC.out _ E7.2.2.2) (fun hHeld => ?_)
          clear hK K
          (try simp only [List.getElem_toArray, List.getElem_cons_zero, List.getElem_cons_succ, Act.put, List.setIfInBounds_toArray, List.set_cons_zero, List.set_cons_succ])
          refine wpAnyH_take (i := 11) (v := ?_) rfl (by kernel_rfl) (by kernel_rfl) (by kernel_rfl) (fun _ _ _ h => h) (Or.inl ⟨by rfl, ?_⟩) (by assumption) ?_
          rotate_left
          · (intro w hSw; obtain ⟨⟨⟨q0, q1⟩, s0, s1, s2, s3, s4⟩, q9⟩ := hSw; go_simp; (try with_reducible rfl))
          (try simp only [List.getElem_toArray, List.getElem_cons_zero, List.getElem_cons_succ, Act.put, List.setIfInBounds_toArray, List.set_cons_zero, List.set_cons_succ])
          refine wpAnyH_take (i := 12) (v := ?_) rfl (by kernel_rfl) (by kernel_rfl) (by kernel_rfl) (fun _ _ _ h => h) (Or.inl ⟨by rfl, ?_⟩) (by assumption) ?_
          rotate_left
          · (intro w hSw; obtain ⟨⟨⟨q0, q1⟩, s0, s1, s2, s3, s4⟩, q9⟩ := hSw; go_simp; (try with_reducible rfl))
          (try simp only [List.getElem_toArray, List.getElem_cons_zero, List.getElem_cons_succ, Act.put, List.setIfInBounds_toArray, List.set_cons_zero, List.set_cons_succ])
          refine wpAnyH_done (by kernel_rfl) ?_ _
          go_wp2_with fail
          go_meet
          exact ⟨_, A6, c6, B6, d6, rfl, rfl, rfl, E7.1, OkT.txt2 HO.out.1 E7.2.1, OkT.txt2 HO.out.2 E7.2.2.1, E7.2.2.2⟩
        · go_simp
          have Q7 := Blk.new wo 32 #[.int .i64 0, .string ⟨#[]⟩, .slice none 0 0, .string ⟨#[]⟩, .slice none 0 0]
          have BY : Below w4.heap.size w4 (wo.alloc (.cells #[.int .i64 0, .string ⟨#[]⟩, .slice none 0 0, .string ⟨#[]⟩, .slice none 0 0] 32)) := BO.alloc BO.size _
          have hg7 : w4.heap.size ≤ wo.heap.size := BO.size
          refine hK.out _ _ (KC.out _ BY) (fun hHeld => ?_)
          clear hK K
          (try simp only [List.getElem_toArray, List.getElem_cons_zero, List.getElem_cons_succ, Act.put, List.setIfInBounds_toArray, List.set_cons_zero, List.set_cons_succ])
          generalize wo.heap.size = g7 at *
          generalize wo.alloc (.cells #[.int .i64 0, .string ⟨#[]⟩, .slice none 0 0, .string ⟨#[]⟩, .slice none 0 0] 32) = w7 at *
          refine wpAnyH_ready (rs := [4]) (by kernel_rfl) (by simp) ?_
          refine AllReadyH.cons rfl (fun K hK => ?_) AllReadyH.nil
          go_simp
          refine (HRD.out _ (HT.out _ (BW.out _ BY))).mono ?_
          rintro ee wd ⟨A6, c6, B6, d6, rfl, rA, rB, bd⟩
          dsimp only at rA rB ⊢
          have BX : Below w4.heap.size w4 wd := BY.trans (bd.mono BY.size)
          (try go_wp2_with fail)
          refine hK.out _ _ (KC.out _ BX) (fun hHeld => ?_)
          clear hK K
          (try simp only [List.getElem_toArray, List.getElem_cons_zero, List.getElem_cons_succ, Act.put, List.setIfInBounds_toArray, List.set_cons_zero, List.set_cons_succ])
          refine wpAnyH_take (i := 5) (v := ?_) rfl (by kernel_rfl) (by kernel_rfl) (by kernel_rfl) (fun _ _ _ h => h) (Or.inl ⟨by rfl, ?_⟩) (by assumption) ?_
          rotate_left
          · (intro w hSw; obtain ⟨⟨⟨q0, q1⟩, s0, s1, s2, s3, s4⟩, q9⟩ := hSw; go_simp; (try with_reducible rfl))
          (try simp only [List.getElem_toArray, List.getElem_cons_zero, List.getElem_cons_succ, Act.put, List.setIfInBounds_toArray, List.set_cons_zero, List.set_cons_succ])
          refine wpAnyH_take (i := 6) (v := ?_) rfl (by kernel_rfl) (by kernel_rfl) (by kernel_rfl) (fun _ _ _ h => h) (Or.inl ⟨by rfl, ?_⟩) (by assumption) ?_
          rotate_left
          · (intro w hSw; obtain ⟨⟨⟨q0, q1⟩, s0, s1, s2, s3, s4⟩, q9⟩ := hSw; go_simp; (try with_reducible rfl))
          (try simp only [List.getElem_toArray, List.getElem_cons_zero, List.getElem_cons_succ, Act.put, List.setIfInBounds_toArray, List.set_cons_zero, List.set_cons_succ])
          refine wpAnyH_take (i := 7) (v := ?_) rfl (by kernel_rfl) (by kernel_rfl) (by kernel_rfl) (fun _ _ _ h => h) (Or.inl ⟨by rfl, ?_⟩) (by assumption) ?_
          rotate_left
          · (intro w hSw; obtain ⟨⟨⟨q0, q1⟩, s0, s1, s2, s3, s4⟩, q9⟩ := hSw; go_simp; (try with_reducible rfl))
          (try simp only [List.getElem_toArray, List.getElem_cons_zero, List.getElem_cons_succ, Act.put, List.setIfInBounds_toArray, List.set_cons_zero, List.set_cons_succ])
          refine wpAnyH_take (i := 8) (v := ?_) rfl (by kernel_rfl) (by kernel_rfl) (by kernel_rfl) (fun _ _ _ h => h) (Or.inl ⟨by rfl, ?_⟩) (by assumption) ?_
          rotate_left
          · (intro w hSw; obtain ⟨⟨⟨q0, q1⟩, s0, s1, s2, s3, s4⟩, q9⟩ := hSw; go_simp; (try with_reducible rfl))
          (try simp only [List.getElem_toArray, List.getElem_cons_zero, List.getElem_cons_succ, Act.put, List.setIfInBounds_toArray, List.set_cons_zero, List.set_cons_succ])
          replace Q7 := Q7.below bd Q7.lt
          have E7 := edit_end (w := w4) (A := A6) (A2 := B6) (l := el) (m := em) (s := ⟨ES.toArray⟩) (x := ⟨EX.toArray⟩) ea BX Q7 hg7 (rowN_noLab rA (Nat.le_refl _) Q7 (noLab_edit _ _ _ _ _ _ _ _ _)) (rowN_noLab rB (Nat.le_refl _) Q7 (noLab_edit _ _ _ _ _ _ _ _ _)) (.slice A6 el.length c6) (.slice B6 em.length d6)
          obtain ⟨e0, e1, e2, e3, e4⟩ := ed_cells Q7
          obtain ⟨f0, f1, f2, f3, f4⟩ := ed_frozen Q7
          refine wpAnyH_ready (rs := [10]) (by kernel_rfl) (by simp) ?_
          refine AllReadyH.cons rfl (fun K hK => ?_) AllReadyH.nil
          go_simp
          refine hK.out _ _ (KC.out _ E7.2.2.2) (fun hHeld => ?_)
          clear hK K
          (try simp only [List.getElem_toArray, List.getElem_cons_zero, List.getElem_cons_succ, Act.put, List.setIfInBounds_toArray, List.set_cons_zero, List.set_cons_succ])
          refine wpAnyH_take (i := 11) (v := ?_) rfl (by kernel_rfl) (by kernel_rfl) (by kernel_rfl) (fun _ _ _ h => h) (Or.inl ⟨by rfl, ?_⟩) (by assumption) ?_
          rotate_left
          · (intro w hSw; obtain ⟨⟨⟨q0, q1⟩, s0, s1, s2, s3, s4⟩, q9⟩ := hSw; go_simp; (try with_reducible rfl))
          (try simp only [List.getElem_toArray, List.getElem_cons_zero, List.getElem_cons_succ, Act.put, List.setIfInBounds_toArray, List.set_cons_zero, List.set_cons_succ])
          refine wpAnyH_take (i := 12) (v := ?_) rfl (by kernel_rfl) (by kernel_rfl) (by kernel_rfl) (fun _ _ _ h => h) (Or.inl ⟨by rfl, ?_⟩) (by assumption) ?_
          rotate_left
          · (intro w hSw; obtain ⟨⟨⟨q0, q1⟩, s0, s1, s2, s3, s4⟩, q9⟩ := hSw; go_simp; (try with_reducible rfl))
          (try simp only [List.getElem_toArray, List.getElem_cons_zero, List.getElem_cons_succ, Act.put, List.setIfInBounds_toArray, List.set_cons_zero, List.set_cons_succ])
          refine wpAnyH_done (by kernel_rfl) ?_ _
          go_wp2_with fail
          go_meet
          exact ⟨_, A6, c6, B6, d6, rfl, rfl, rfl, E7.1, OkT.txt2 HO.out.1 E7.2.1, OkT.txt2 HO.out.2 E7.2.2.1, E7.2.2.2⟩
      · go_simp
        have Q7 : Blk (w4.alloc (.cells #[.int .i64 0, .string ⟨#[]⟩, .slice none 0 0, .string ⟨#[]⟩, .slice none 0 0] 32)).drew w4.heap.size 32 #[.int .i64 0, .string ⟨#[]⟩, .slice none 0 0, .string ⟨#[]⟩, .slice none 0 0] := Blk.new w4 32 #[.int .i64 0, .string ⟨#[]⟩, .slice none 0 0, .string ⟨#[]⟩, .slice none 0 0]
        have hg7 : w4.heap.size ≤ w4.heap.size := Nat.le_refl _
        refine hK.out _ _ (KC.out _ BA) (fun hHeld => ?_)
        clear hK K
        (try simp only [List.getElem_toArray, List.getElem_cons_zero, List.getElem_cons_succ, Act.put, List.setIfInBounds_toArray, List.set_cons_zero, List.set_cons_succ])
        generalize (w4.alloc (.cells #[.int .i64 0, .string ⟨#[]⟩, .slice none 0 0, .string ⟨#[]⟩, .slice none 0 0] 32)).drew = w7 at *
        refine wpAnyH_ready (rs := [3]) (by kernel_rfl) (by simp) ?_
        refine AllReadyH.cons rfl (fun K hK => ?_) AllReadyH.nil
        go_simp
        refine (HOU.out _).mono ?_
        rintro ee wo ⟨rfl, bo⟩
        have BO : Below w4.heap.size w4 wo := BA.trans (bo.mono BA.size)
        (try go_wp2_with fail)
        refine hK.out _ _ (KC.out _ BO) (fun hHeld => ?_)
        clear hK K
        (try simp only [List.getElem_toArray, List.getElem_cons_zero, List.getElem_cons_succ, Act.put, List.setIfInBounds_toArray, List.set_cons_zero, List.set_cons_succ])
        replace Q7 := Q7.below bo Q7.lt
        refine wpAnyH_ready (rs := [4]) (by kernel_rfl) (by simp) ?_
        refine AllReadyH.cons rfl (fun K hK => ?_) AllReadyH.nil
        go_simp
        refine (HRD.out _ (HT.out _ (BW.out _ BO))).mono ?_
        rintro ee wd ⟨A6, c6, B6, d6, rfl, rA, rB, bd⟩
        dsimp only at rA rB ⊢
        have BX : Below w4.heap.size w4 wd := BO.trans (bd.mono BO.size)
        (try go_wp2_with fail)
        refine hK.out _ _ (KC.out _ BX) (fun hHeld => ?_)
        clear hK K
        (try simp only [List.getElem_toArray, List.getElem_cons_zero, List.getElem_cons_succ, Act.put, List.setIfInBounds_toArray, List.set_cons_zero, List.set_cons_succ])
        refine wpAnyH_take (i := 5) (v := ?_) rfl (by kernel_rfl) (by kernel_rfl) (by kernel_rfl) (fun _ _ _ h => h) (Or.inl ⟨by rfl, ?_⟩) (by assumption) ?_
        rotate_left
        · (intro w hSw; obtain ⟨⟨⟨q0, q1⟩, s0, s1, s2, s3, s4⟩, q9⟩ := hSw; go_simp; (try with_reducible rfl))
        (try simp only [List.getElem_toArray, List.getElem_cons_zero, List.getElem_cons_succ, Act.put, List.setIfInBounds_toArray, List.set_cons_zero, List.set_cons_succ])
        refine wpAnyH_take (i := 6) (v := ?_) rfl (by kernel_rfl) (by kernel_rfl) (by kernel_rfl) (fun _ _ _ h => h) (Or.inl ⟨by rfl, ?_⟩) (by assumption) ?_
        rotate_left
        · (intro w hSw; obtain ⟨⟨⟨q0, q1⟩, s0, s1, s2, s3, s4⟩, q9⟩ := hSw; go_simp; (try with_reducible rfl))
        (try simp only [List.getElem_toArray, List.getElem_cons_zero, List.getElem_cons_succ, Act.put, List.setIfInBounds_toArray, List.set_cons_zero, List.set_cons_succ])
        refine wpAnyH_take (i := 7) (v := ?_) rfl (by kernel_rfl) (by kernel_rfl) (by kernel_rfl) (fun _ _ _ h => h) (Or.inl ⟨by rfl, ?_⟩) (by assumption) ?_
        rotate_left
        · (intro w hSw; obtain ⟨⟨⟨q0, q1⟩, s0, s1, s2, s3, s4⟩, q9⟩ := hSw; go_simp; (try with_reducible rfl))
        (try simp only [List.getElem_toArray, List.getElem_cons_zero, List.getElem_cons_succ, Act.put, List.setIfInBounds_toArray, List.set_cons_zero, List.set_cons_succ])
        refine wpAnyH_take (i := 8) (v := ?_) rfl (by kernel_rfl) (by kernel_rfl) (by kernel_rfl) (fun _ _ _ h => h) (Or.inl ⟨by rfl, ?_⟩) (by assumption) ?_
        rotate_left
        · (intro w hSw; obtain ⟨⟨⟨q0, q1⟩, s0, s1, s2, s3, s4⟩, q9⟩ := hSw; go_simp; (try with_reducible rfl))
        (try simp only [List.getElem_toArray, List.getElem_cons_zero, List.getElem_cons_succ, Act.put, List.setIfInBounds_toArray, List.set_cons_zero, List.set_cons_succ])
        replace Q7 := Q7.below bd Q7.lt
        have E7 := edit_end (w := w4) (A := A6) (A2 := B6) (l := el) (m := em) (s := ⟨ES.toArray⟩) (x := ⟨EX.toArray⟩) ea BX Q7 hg7 (rowN_noLab rA (Nat.le_refl _) Q7 (noLab_edit _ _ _ _ _ _ _ _ _)) (rowN_noLab rB (Nat.le_refl _) Q7 (noLab_edit _ _ _ _ _ _ _ _ _)) (.slice A6 el.length c6) (.slice B6 em.length d6)
        obtain ⟨e0, e1, e2, e3, e4⟩ := ed_cells Q7
        obtain ⟨f0, f1, f2, f3, f4⟩ := ed_frozen Q7
        refine wpAnyH_ready (rs := [10]) (by kernel_rfl) (by simp) ?_
        refine AllReadyH.cons rfl (fun K hK => ?_) AllReadyH.nil
        go_simp
        refine hK.out _ _ (KC.out _ E7.2.2.2) (fun hHeld => ?_)
        clear hK K
        (try simp only [List.getElem_toArray, List.getElem_cons_zero, List.getElem_cons_succ, Act.put, List.setIfInBounds_toArray, List.set_cons_zero, List.set_cons_succ])
        refine wpAnyH_take (i := 11) (v := ?_) rfl (by kernel_rfl) (by kernel_rfl) (by kernel_rfl) (fun _ _ _ h => h) (Or.inl ⟨by rfl, ?_⟩) (by assumption) ?_
        rotate_left
        · (intro w hSw; obtain ⟨⟨⟨q0, q1⟩, s0, s1, s2, s3, s4⟩, q9⟩ := hSw; go_simp; (try with_reducible rfl))
        (try simp only [List.getElem_toArray, List.getElem_cons_zero, List.getElem_cons_succ, Act.put, List.setIfInBounds_toArray, List.set_cons_zero, List.set_cons_succ])
        refine wpAnyH_take (i := 12) (v := ?_) rfl (by kernel_rfl) (by kernel_rfl) (by kernel_rfl) (fun _ _ _ h => h) (Or.inl ⟨by rfl, ?_⟩) (by assumption) ?_
        rotate_left
        · (intro w hSw; obtain ⟨⟨⟨q0, q1⟩, s0, s1, s2, s3, s4⟩, q9⟩ := hSw; go_simp; (try with_reducible rfl))
        (try simp only [List.getElem_toArray, List.getElem_cons_zero, List.getElem_cons_succ, Act.put, List.setIfInBounds_toArray, List.set_cons_zero, List.set_cons_succ])
        refine wpAnyH_done (by kernel_rfl) ?_ _
        go_wp2_with fail
        go_meet
        exact ⟨_, A6, c6, B6, d6, rfl, rfl, rfl, E7.1, OkT.txt2 HO.out.1 E7.2.1, OkT.txt2 HO.out.2 E7.2.2.1, E7.2.2.2⟩
    case rest =>
      obtain ⟨g9, A6, c6, B6, d6, rfl, rfl, rfl, Q9, T6, T7, hbx⟩ := hcut
      replace KE := Lib.hid (KE.out.step hbx)
      obtain ⟨v0, v1, v2, v3, v4⟩ := ed_cells KE.out.now.1.1
      obtain ⟨u0, u1, u2, u3, u4⟩ := ed_cells Q9
      have HSA := Lib.hid (fun wx h1 h2 h3 h4 => refESame_any A4 B4 A6 B6 c4 d4 c6 d6 ea ES el EX em wx h1 h2 h3 h4)
      have e1 : ((er : Int) == (er : Int)) = true := by simp
      have e2 : ((n : Int) == (n : Int)) = true := by simp
      clear hbx KC BD BA BW HRD HOU HD Q9
      go_wp2_with (go_at_call 14; refine (HSA.out _ KE.out.now.1.2.1 KE.out.now.1.2.2 T6 T7).mono ?_; rintro e w9 ⟨rfl, bb⟩; replace KE := Lib.hid (KE.out.step bb); clear bb)
      go_ret
      exact ⟨rfl, KE.out.now.2.2.2⟩
end Go.Proofs.YtgmeamefbfgbgaaDoor

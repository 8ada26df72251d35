/-
  The landed replaced: layer 15.
-/
import Derived.Test.YtgmeamefbfgbgaaDoorSuRep
import Derived.Test.YtgmeamefbfgbgaaDoorSuFind
import Derived.Test.YtgmeamefbfgbgaaDoorM03o
namespace Go.Proofs.YtgmeamefbfgbgaaDoor
open Go.RowKit
set_option maxRecDepth 100000

theorem rep_new (w : World) (S : List UInt8) (vL : Value) (J : Array Value) :
    RepW (((((((w.alloc (.cells #[.string ⟨S.toArray⟩] 9)).alloc (.cells #[vL] 62)).alloc (.cells J 28)).alloc (.cells #[.string ⟨#[]⟩, .slice none 0 0] 24)).alloc (.cells #[.pointer none, .slice none 0 0] 103)).alloc (.cells #[.slice none 0 0] 22)).alloc (.cells #[.int .i64 0] 3)) w.heap.size S vL J [] [] 0 ∧
    Below w.heap.size w (((((((w.alloc (.cells #[.string ⟨S.toArray⟩] 9)).alloc (.cells #[vL] 62)).alloc (.cells J 28)).alloc (.cells #[.string ⟨#[]⟩, .slice none 0 0] 24)).alloc (.cells #[.pointer none, .slice none 0 0] 103)).alloc (.cells #[.slice none 0 0] 22)).alloc (.cells #[.int .i64 0] 3)) := by
  obtain ⟨g, hg⟩ : ∃ g, w.heap.size = g := ⟨_, rfl⟩
  have a1 := (Below.refl w.heap.size w).alloc (Nat.le_refl _) (.cells #[.string ⟨S.toArray⟩] 9)
  have k1 := Blk.new w 9 #[.string ⟨S.toArray⟩]
  have z1 : (w.alloc (.cells #[.string ⟨S.toArray⟩] 9)).heap.size = w.heap.size + 1 := World.size_alloc _ _
  generalize w.alloc (.cells #[.string ⟨S.toArray⟩] 9) = w1 at *
  have a2 := a1.alloc a1.size (.cells #[vL] 62)
  have k2 := Blk.new w1 62 #[vL]
  have z2 : (w1.alloc (.cells #[vL] 62)).heap.size = w1.heap.size + 1 := World.size_alloc _ _
  replace k1 := k1.alloc (.cells #[vL] 62)
  generalize w1.alloc (.cells #[vL] 62) = w2 at *
  have a3 := a2.alloc a2.size (.cells J 28)
  have k3 := Blk.new w2 28 J
  have z3 : (w2.alloc (.cells J 28)).heap.size = w2.heap.size + 1 := World.size_alloc _ _
  replace k1 := k1.alloc (.cells J 28)
  replace k2 := k2.alloc (.cells J 28)
  generalize w2.alloc (.cells J 28) = w3 at *
  have a4 := a3.alloc a3.size (.cells #[.string ⟨#[]⟩, .slice none 0 0] 24)
  have k4 := Blk.new w3 24 #[.string ⟨#[]⟩, .slice none 0 0]
  have z4 : (w3.alloc (.cells #[.string ⟨#[]⟩, .slice none 0 0] 24)).heap.size = w3.heap.size + 1 := World.size_alloc _ _
  replace k1 := k1.alloc (.cells #[.string ⟨#[]⟩, .slice none 0 0] 24)
  replace k2 := k2.alloc (.cells #[.string ⟨#[]⟩, .slice none 0 0] 24)
  replace k3 := k3.alloc (.cells #[.string ⟨#[]⟩, .slice none 0 0] 24)
  generalize w3.alloc (.cells #[.string ⟨#[]⟩, .slice none 0 0] 24) = w4 at *
  have a5 := a4.alloc a4.size (.cells #[.pointer none, .slice none 0 0] 103)
  have k5 := bld_new w4
  have z5 : (w4.alloc (.cells #[.pointer none, .slice none 0 0] 103)).heap.size = w4.heap.size + 1 := World.size_alloc _ _
  replace k1 := k1.alloc (.cells #[.pointer none, .slice none 0 0] 103)
  replace k2 := k2.alloc (.cells #[.pointer none, .slice none 0 0] 103)
  replace k3 := k3.alloc (.cells #[.pointer none, .slice none 0 0] 103)
  replace k4 := k4.alloc (.cells #[.pointer none, .slice none 0 0] 103)
  generalize w4.alloc (.cells #[.pointer none, .slice none 0 0] 103) = w5 at *
  have a6 := a5.alloc a5.size (.cells #[.slice none 0 0] 22)
  have k6 := Blk.new w5 22 #[.slice none 0 0]
  have z6 : (w5.alloc (.cells #[.slice none 0 0] 22)).heap.size = w5.heap.size + 1 := World.size_alloc _ _
  replace k1 := k1.alloc (.cells #[.slice none 0 0] 22)
  replace k2 := k2.alloc (.cells #[.slice none 0 0] 22)
  replace k3 := k3.alloc (.cells #[.slice none 0 0] 22)
  replace k4 := k4.alloc (.cells #[.slice none 0 0] 22)
  replace k5 := k5.below ((Below.refl _ w5).alloc (Nat.le_refl _) (.cells #[.slice none 0 0] 22))
  generalize w5.alloc (.cells #[.slice none 0 0] 22) = w6 at *
  have a7 := a6.alloc a6.size (.cells #[.int .i64 0] 3)
  have k7 := Blk.new w6 3 #[.int .i64 0]
  have z7 : (w6.alloc (.cells #[.int .i64 0] 3)).heap.size = w6.heap.size + 1 := World.size_alloc _ _
  replace k1 := k1.alloc (.cells #[.int .i64 0] 3)
  replace k2 := k2.alloc (.cells #[.int .i64 0] 3)
  replace k3 := k3.alloc (.cells #[.int .i64 0] 3)
  replace k4 := k4.alloc (.cells #[.int .i64 0] 3)
  replace k5 := k5.below ((Below.refl _ w6).alloc (Nat.le_refl _) (.cells #[.int .i64 0] 3))
  replace k6 := k6.alloc (.cells #[.int .i64 0] 3)
  generalize w6.alloc (.cells #[.int .i64 0] 3) = w7 at *
  have e2 : w1.heap.size = w.heap.size + 1 := z1
  have e3 : w2.heap.size = w.heap.size + 2 := by omega
  have e4 : w3.heap.size = w.heap.size + 3 := by omega
  have e5 : w4.heap.size = w.heap.size + 4 := by omega
  have e6 : w5.heap.size = w.heap.size + 5 := by omega
  have e7 : w6.heap.size = w.heap.size + 6 := by omega
  rw [e2] at k2; rw [e3] at k3; rw [e4] at k4; rw [e5] at k5; rw [e6] at k6; rw [e7] at k7
  exact ⟨⟨k1, k2, k3, k4, k5, ⟨_, k6, World.ownsRow_nil _ _ _ _⟩, k7, by omega⟩, a7⟩
set_option maxHeartbeats 4000000 in
theorem suReplaced_any (S : List UInt8) (L : List Nat) (P : List Nat) (AL AP : Option Addr) (cL cP : Nat) (y : Nat) (hy : y < 18446744073709551616) (a b : Int) (pat rep : List UInt8) (ev : Bool) (hS : S.length ≤ 5000) (hL : L.length = S.length) (hcL : L.length ≤ cL) (hx : ∀ x ∈ L, x < 18446744073709551616) (hA : Apart pat.length 0 S.length P) (hPl : P.length ≤ 5000) (hp : pat.length ≤ 5000) (hr : rep.length ≤ 5000) (hfit : (putsL S 0 pat.length rep P).length ≤ 4096) (w : World) (rL : Row w w.heap.size AL (L.map u64v)) (rP : Row w w.heap.size AP (P.map intn)) :
    Calls Tryd.prog 29 #[.string ⟨S.toArray⟩, .slice AL L.length cL, .slice AP P.length cP, .int .u64 (y : Nat), .agg #[.int .i64 a, .int .i64 b, .string ⟨pat.toArray⟩, .string ⟨rep.toArray⟩, .bool ev]] w (GivesT w ((putsL S 0 pat.length rep P, pack (putsL L 0 pat.length (List.replicate rep.length y) P)), 0)) := by
  have HL := Lib.hid hL
  have HX := Lib.hid hx
  have RL := Lib.hid rL
  have RP := Lib.hid rP
  have HA := Lib.hid hA
  clear hL hx rL rP hA
  go_enter Tryd.func29, Tryd.ntmps29
  obtain ⟨h0, b0⟩ := rep_new w S (.slice AL L.length cL) #[.int .i64 a, .int .i64 b, .string ⟨pat.toArray⟩, .string ⟨rep.toArray⟩, .bool ev]
  have H0 := Lib.hid h0
  have B0 := Lib.hid b0
  clear h0 b0
  go_upto_region 5 with fail
  generalize ((((((w.alloc (.cells #[.string ⟨S.toArray⟩] 9)).alloc (.cells #[.slice AL L.length cL] 62)).alloc (.cells #[.int .i64 a, .int .i64 b, .string ⟨pat.toArray⟩, .string ⟨rep.toArray⟩, .bool ev] 28)).alloc (.cells #[.string ⟨#[]⟩, .slice none 0 0] 24)).alloc (.cells #[.pointer none, .slice none 0 0] 103)).alloc (.cells #[.slice none 0 0] 22)).alloc (.cells #[.int .i64 0] 3) = w7 at *
  simp only [Nat.add_assoc, Nat.reduceAdd]
  generalize hg : w.heap.size = g at *
  have HG := Lib.hid hg
  clear hg
  have HE : Hid (∃ X Y, putsL S 0 pat.length rep P = X ∧ putsL L 0 pat.length (List.replicate rep.length y) P = Y) := ⟨_, _, rfl, rfl⟩
  obtain ⟨X, Y, e1, e2⟩ := HE.out
  have E1 := Lib.hid e1
  have E2 := Lib.hid e2
  rw [e1] at hfit
  clear HE e1 e2
  go_upto_region 6 with fail
  go_loopw [17, 23] (fun _ i wr => ∃ (k at_ : Nat) (D : List UInt8) (M : List RunP), k ≤ P.length ∧ i = .int .i64 k ∧ RepW wr g S (.slice AL L.length cL) #[.int .i64 a, .int .i64 b, .string ⟨pat.toArray⟩, .string ⟨rep.toArray⟩, .bool ev] D M at_ ∧ Below g w wr ∧ Apart pat.length at_ S.length (P.drop k) ∧ X = D ++ putsL (S.drop at_) at_ pat.length rep (P.drop k) ∧ Y = bytesOf M ++ putsL (L.drop at_) at_ pat.length (List.replicate rep.length y) (P.drop k) ∧ (∀ r ∈ M, r.1 < 18446744073709551616 ∧ 0 ≤ r.2 ∧ r.2 ≤ 5000) ∧ M.length ≤ at_ + k) (fun _ i _ => P.length - (intOf i).toNat)
  case atStart => exact ⟨0, 0, [], [], Nat.zero_le _, rfl, H0.out, B0.out, HA.out, by rw [List.drop_zero, List.drop_zero, List.nil_append]; exact E1.out.symm, by rw [List.drop_zero, List.drop_zero]; exact E2.out.symm, fun r hr => absurd hr (List.not_mem_nil), Nat.zero_le _⟩
  case round =>
    clear H0 B0
    obtain ⟨k, p, D, M, hk, rfl, h, hb, hap, hX, hY, hM, hMl⟩ := hrel
    have hpS : p ≤ S.length := by have := hap.le; omega
    have hDX : D.length ≤ 4096 := by rw [hX, List.length_append] at hfit; omega
    have hMl2 : M.length ≤ 10000 := by omega
    by_cases hlt : k < P.length
    · obtain ⟨ad, hAP, hbl, hcell⟩ := ((RP.out).below hb).map_at hlt
      subst hAP
      have hdr := List.drop_eq_getElem_cons hlt
      generalize P[k] = q at *
      rw [hdr] at hap hX hY
      rw [putsL_next hpS hap] at hX
      rw [putsL_next (X := L) (by rw [HL.out]; exact hpS) (by rw [HL.out]; exact hap)] at hY
      obtain ⟨hpq, hap2⟩ := hap
      have hqS : q + pat.length ≤ S.length := by have := hap2.le; omega
      replace hcell : wr.cell? (ad.add k) = some (.int .i64 (q : Nat)) := hcell
      have HXE := Lib.hid hX
      have HYE := Lib.hid hY
      have HM := Lib.hid hM
      have HP2 := Lib.hid hap2
      clear hX hY hM hap2 hdr
      have hD1 : (D ++ (S.drop p).take (q - p)).length ≤ 10000 := by rw [List.length_append, List.length_take]; omega
      have hM1 : (M ++ keepR ((L.drop p).take (q - p))).length ≤ q + k := by rw [List.length_append, keepR_len, List.length_take]; omega
      have HKE := Lib.hid (suKeep_any g S L AL cL #[.int .i64 a, .int .i64 b, .string ⟨pat.toArray⟩, .string ⟨rep.toArray⟩, .bool ev] D M p q hpq (by omega) hS HL.out hcL HX.out (by omega) (by omega) wr (RL.out.below hb) h)
      clear h
      go_upto_region 9 with (go_at_call 61; refine HKE.out.mono ?_; rintro e w1 ⟨rfl, h1, b1⟩; have hb1 := hb.trans b1; have H1 := Lib.hid h1; clear h1 b1)
      clear hcell HKE
      have HB1 := Lib.hid (keepR_bytes ((L.drop p).take (q - p)))
      have HF1 : Hid (∀ r ∈ M ++ keepR ((L.drop p).take (q - p)), r.1 < 18446744073709551616 ∧ 0 ≤ r.2 ∧ r.2 ≤ 5000) := fun r hr => by
        rcases List.mem_append.1 hr with hr | hr
        · exact HM.out r hr
        · obtain ⟨x, hx, rfl⟩ := List.mem_map.1 hr
          exact ⟨HX.out x (List.mem_of_mem_drop (List.mem_of_mem_take hx)), show (0 : Int) ≤ 1 by omega, show (1 : Int) ≤ 5000 by omega⟩
      have HXF : Hid (X = (D ++ (S.drop p).take (q - p)) ++ (rep ++ putsL (S.drop (q + pat.length)) (q + pat.length) pat.length rep (P.drop (k + 1)))) := by show _ = _; rw [HXE.out]; simp only [List.append_assoc]
      have HYF : Hid (Y = bytesOf (M ++ keepR ((L.drop p).take (q - p))) ++ (List.replicate rep.length y ++ putsL (L.drop (q + pat.length)) (q + pat.length) pat.length (List.replicate rep.length y) (P.drop (k + 1)))) := by show _ = _; rw [HYE.out, bytesOf_append, HB1.out]; simp only [List.append_assoc]
      clear HXE HYE HB1 HM
      generalize D ++ (S.drop p).take (q - p) = D1 at *
      generalize M ++ keepR ((L.drop p).take (q - p)) = M1 at *
      obtain ⟨z0, z1, z2, z3, z4⟩ := su_job H1.out.j
      have HWR := Lib.hid (bldWrite2_any (g + 4) (g + 4) D1 rep w1 H1.out.b (by omega) (by have := H1.out.hi; omega))
      go_upto_region 10 with (go_at_call 62; refine HWR.out.mono ?_; rintro e w2 ⟨⟨nn, rfl⟩, hbl2, hb2, hk2⟩; have H2 := Lib.hid (H1.out.write hbl2 hb2 hk2); have B2 : Below g w w2 := hb1.trans (hb2.mono (by omega)); clear hbl2 hb2 hk2)
      clear z0 z1 z2 z3 z4 HWR H1 hb1
      obtain ⟨z0, z1, z2, z3, z4⟩ := su_job H2.out.j
      obtain ⟨v, r1, r2⟩ := H2.out.r
      obtain ⟨A1, c1, rfl⟩ := own_form r2
      have hz := H2.out.hi
      have cv := r1.cell 0
      simp at cv
      have HP := Lib.hid (fun (v3 : Value) (w3 : World) h3 hb3 hf3 => H2.out.push (v3 := v3) (w3 := w3) (x := y) (n := (rep.length : Nat)) r1 r2 h3 hb3 hf3)
      have HO := Lib.hid r2
      have HV := Lib.hid r1
      clear r1 r2
      go_upto_region 11 with (at_builtin; refine wpList_pushN rfl _ _ _ rfl (g + 7) 51 _ 2 16 elt_run _ _ _ _ rfl HO.out [.int .u64 (y : Nat), .int .i64 (rep.length : Nat)] _ rfl rfl rfl (by simp [Value.oneCell']) (by unfold maxLen; omega) (by omega) hz ?_; intro v3 w3 hown3 hb3 hfar3; obtain ⟨A3, c3, rfl⟩ := own_form hown3; have hv3 := (hfar3 (g + 5) (by omega) (own_low HO.out (by omega) _)).trans HV.out; have cv3 := Blk.cell hv3 0; have fv3 := Blk.frozen hv3 0; simp at cv3; have HQ := Lib.hid (HP.out _ w3 hown3 hb3 hfar3); clear hfar3 hown3 hv3)
      have H3 := Lib.hid HQ.out.1
      have B3 := B2.trans HQ.out.2
      clear z0 z1 z2 z3 z4 HP HO HV cv3 fv3 HQ hb3 cv B2 H2 hz
      generalize w3.setCell ⟨g + 5, 0, none⟩ (.slice A3 (M1.length + 1) c3) = w4 at *
      obtain ⟨z0, z1, z2, z3, z4⟩ := su_job H3.out.j
      have a0 := H3.out.a.cell 0
      have fa := H3.out.a.frozen 0
      simp at a0
      have hw0 := wrap_small ((q : Int) + (pat.length : Int)) (by omega) (by omega)
      have H5 := Lib.hid (H3.out.at_ (q + pat.length))
      have B5 := Lib.hid (B3.setCell (p := ⟨g + 6, 0, none⟩) (by show g ≤ g + 6; omega) (.int .i64 ((q + pat.length : Nat) : Int)))
      rw [Int.natCast_add] at H5 B5
      go_wp2_with fail
      go_roundw
      case rel => exact ⟨k + 1, q + pat.length, D1 ++ rep, M1 ++ [((y, ((rep.length : Nat) : Int)) : RunP)], by omega, by go_num, H5.out, B5.out, HP2.out, by rw [HXF.out, List.append_assoc], by rw [HYF.out, bytesOf_append, bytesOf_cons, bytesOf_nil, List.append_nil, List.append_assoc]; rfl, fun r hr => by
        rcases List.mem_append.1 hr with hr | hr
        · exact HF1.out r hr
        · obtain rfl := List.mem_singleton.1 hr
          exact ⟨hy, show (0 : Int) ≤ (rep.length : Nat) by omega, show ((rep.length : Nat) : Int) ≤ 5000 by omega⟩, by rw [List.length_append]; show M1.length + 1 ≤ _; omega⟩
      case measure => simp [intOf]; omega
    · obtain rfl : k = P.length := by omega
      rw [List.drop_length, putsL_nil] at hX hY
      have hM1 : M.length ≤ 10000 := hMl2
      have HXE := Lib.hid hX
      have HYE := Lib.hid hY
      have HM := Lib.hid hM
      clear hX hY hM hap
      have hs := h.s.cell 0
      simp at hs
      have HKE := Lib.hid (suKeep_any g S L AL cL #[.int .i64 a, .int .i64 b, .string ⟨pat.toArray⟩, .string ⟨rep.toArray⟩, .bool ev] D M p S.length hpS (Nat.le_refl _) hS HL.out hcL HX.out (by omega) (by omega) wr (RL.out.below hb) h)
      clear h
      go_upto_region 14 with (go_at_call 61; refine HKE.out.mono ?_; rintro e w1 ⟨rfl, h1, b1⟩; have hb1 := hb.trans b1; have H1 := Lib.hid h1; clear h1 b1)
      clear hs HKE
      have HB1 := Lib.hid (keepR_bytes ((L.drop p).take (S.length - p)))
      have HF1 : Hid (∀ r ∈ M ++ keepR ((L.drop p).take (S.length - p)), r.1 < 18446744073709551616 ∧ 0 ≤ r.2 ∧ r.2 ≤ 5000) := fun r hr => by
        rcases List.mem_append.1 hr with hr | hr
        · exact HM.out r hr
        · obtain ⟨x, hx, rfl⟩ := List.mem_map.1 hr
          exact ⟨HX.out x (List.mem_of_mem_drop (List.mem_of_mem_take hx)), show (0 : Int) ≤ 1 by omega, show (1 : Int) ≤ 5000 by omega⟩
      have HXF : Hid (X = D ++ (S.drop p).take (S.length - p)) := by show _ = _; rw [HXE.out, List.take_of_length_le (by rw [List.length_drop]; omega)]
      have HYF : Hid (Y = bytesOf (M ++ keepR ((L.drop p).take (S.length - p)))) := by show _ = _; rw [HYE.out, bytesOf_append, HB1.out, List.take_of_length_le (by rw [List.length_drop, HL.out]; exact Nat.le_refl _)]
      have hM1 : (M ++ keepR ((L.drop p).take (S.length - p))).length ≤ 20000 := by rw [List.length_append, keepR_len, List.length_take]; omega
      have HXY : Hid (Y.length = X.length) := by
        have e1 := putsL_len rep P S 0 (by rw [Nat.zero_add]; exact HA.out)
        have e2 := putsL_len (List.replicate rep.length y) P L 0 (by rw [Nat.zero_add, HL.out]; exact HA.out)
        rw [E1.out] at e1
        rw [E2.out, List.length_replicate, HL.out] at e2
        show _ = _
        omega
      clear HXE HYE HB1 HM
      rw [← HXF.out] at H1
      clear HXF
      generalize M ++ keepR ((L.drop p).take (S.length - p)) = M1 at *
      have HN : Hid (normalOf M1 = (pack Y, 0)) := by
        show _ = _
        unfold normalOf
        rw [if_neg (fun ⟨r, hr, hn⟩ => by have := (HF1.out r hr).2.1; omega), if_pos, ← HYF.out]
        have := bytesOf_len M1
        rw [← HYF.out] at this
        have := HXY.out
        omega
      obtain ⟨v, r1, r2⟩ := H1.out.r
      obtain ⟨A1, c1, rfl⟩ := own_form r2
      have cv := r1.cell 0
      simp at cv
      have HNO := Lib.hid (runNormal_any A1 c1 w1.heap.size M1 (fun r hr => by have := HF1.out r hr; omega) (by unfold maxLen; omega) w1 (Nat.le_refl _) (Row.of_own r2))
      rw [HN.out] at HNO
      go_upto_region 15 with (go_at_call 63; refine HNO.out.mono ?_; rintro e w2 ⟨A2, c2, rfl, hown2, b2⟩; have B2 := Lib.hid b2; have HO2 := Lib.hid hown2; clear hown2 b2)
      clear cv HNO r1 r2
      have hz1 := H1.out.hi
      have K2 : Hid (KeptT 0 0 w1 w2) := keptT_below B2.out
      have G3 := Lib.hid (H1.out.t.below B2.out H1.out.t.lt)
      have HS2 := Lib.hid (bldString2_any (g + 4) (g + 4) X w2 (H1.out.b.below B2.out) (by have := B2.out.size; omega))
      have hb2 := hb1.trans (B2.out.mono (by omega))
      clear K2
      go_wp2_with (go_at_call 64; refine HS2.out.mono ?_; rintro e w3 ⟨rfl, b3, k3⟩; have G4 := Lib.hid (G3.out.below b3 (by omega)); have O4 := Lib.hid (k3.own HO2.out (by decide) (by decide)); have B4 := Lib.hid (hb2.trans (b3.mono (by omega))); obtain ⟨y4, y5, y6, y7⟩ := txt_var G4.out; clear b3 k3)
      have E := givesT_end (w := w) X rfl 0 (by rw [HG.out]; exact B4.out) G4.out (by rw [HG.out]; omega) (by omega) O4.out
      refine ret_text rfl _ _ (g + 3) _ _ rfl E.1 rfl ?_
      rw [E1.out, E2.out]
      exact E.2
end Go.Proofs.YtgmeamefbfgbgaaDoor

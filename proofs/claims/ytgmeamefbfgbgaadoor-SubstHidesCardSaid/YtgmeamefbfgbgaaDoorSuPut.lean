/-
  Contracts of the document's own answers, layer 15: put.
-/
import Derived.Test.YtgmeamefbfgbgaaDoorSuMath
import Derived.Test.YtgmeamefbfgbgaaDoorM07e
import Derived.Test.YtgmeamefbfgbgaaDoorM04
import Derived.Deep.DeepCutAuto
namespace Go.Proofs.YtgmeamefbfgbgaaDoor
open Go.RowKit
set_option maxRecDepth 100000

set_option maxHeartbeats 4000000 in
theorem refSuPut_any (A A2 : Option Addr) (c d : Nat) (S X : List UInt8) (l m : List RunP) (F T : Nat) (hFT : F ≤ T) (hTS : T ≤ S.length) (hS : S.length ≤ 4096) (hX : X.length ≤ 4096) (g2 : sumN l ≤ 4096) (k2 : sumN m ≤ 4096) (hlS : (bytesOf l).length = S.length) (hlX : (bytesOf m).length = X.length) (w : World) (h : Txu w A S l) (hh : Txu w A2 X m) :
    Calls Tryd.prog 37 #[.agg #[.string ⟨S.toArray⟩, .slice A l.length c], .int .i64 (F : Nat), .int .i64 (T : Nat), .agg #[.string ⟨X.toArray⟩, .slice A2 m.length d]] w (GivesT1 w (putL S F T X) (pack (putL (bytesOf l) F T (bytesOf m)))) := by
  have HH := Lib.hid h
  have HH2 := Lib.hid hh
  have HM := Lib.hid (bytesOf_mem h.hf)
  have HM2 := Lib.hid (bytesOf_mem hh.hf)
  have hTb : T ≤ (bytesOf l).length := by omega
  have hlb : (bytesOf l).length ≤ 4096 := by omega
  have hlm : (bytesOf m).length ≤ 4096 := by omega
  clear h hh hlS hlX
  have Q := Lib.hid (three_boxes w 24 24 24 (.string ⟨S.toArray⟩) (.slice A l.length c) (.string ⟨X.toArray⟩) (.slice A2 m.length d))
  have HB1 : Hid (∀ wx, Below w.heap.size w wx → Calls Tryd.prog 42 #[.slice A l.length c] wx fun e w' => ∃ A' c', e = .returned (.slice A' (bytesOf l).length c') ∧ w'.ownsRow wx.heap.size 26 1 (.slice A' (bytesOf l).length c') (bytesOf l).length ((bytesOf l).map u64v) ∧ Below wx.heap.size wx w') := fun wx hb => refBytes_any A c w.heap.size l HH.out.hf HH.out.hl g2 wx hb.size (HH.out.row.below hb)
  have HB2 : Hid (∀ wx, Below w.heap.size w wx → Calls Tryd.prog 42 #[.slice A2 m.length d] wx fun e w' => ∃ A' c', e = .returned (.slice A' (bytesOf m).length c') ∧ w'.ownsRow wx.heap.size 26 1 (.slice A' (bytesOf m).length c') (bytesOf m).length ((bytesOf m).map u64v) ∧ Below wx.heap.size wx w') := fun wx hb => refBytes_any A2 d w.heap.size m HH2.out.hf HH2.out.hl k2 wx hb.size (HH2.out.row.below hb)
  unfold putL
  generalize bytesOf l = b at *
  generalize bytesOf m = e at *
  go_enter Tryd.func37, Tryd.ntmps37
  go_upto_region 1 with fail
  generalize hwa : ((w.alloc (.cells #[.string ⟨S.toArray⟩, .slice A l.length c] 24)).alloc (.cells #[.string ⟨X.toArray⟩, .slice A2 m.length d] 24)).alloc (.cells #[.string ⟨#[]⟩, .slice none 0 0] 24) = wa at *
  clear hwa
  have KC : Hid (∀ w', Below wa.heap.size wa w' → w'.cell? ⟨w.heap.size, 1, none⟩ = some (.slice A l.length c) ∧ w'.cell? ⟨w.heap.size + 1, 1, none⟩ = some (.slice A2 m.length d)) := fun w' hb => ⟨(txt_cells (Q.out.2.2.1.below hb (by rw [Q.out.2.1]; omega))).2, (txt_cells (Q.out.2.2.2.1.below hb (by rw [Q.out.2.1]; omega))).2⟩
  have BD : Below wa.heap.size wa wa.drew := below_drewN (Below.refl _ _) 1
  have BW : Hid (∀ w', Below wa.heap.size wa w' → Below w.heap.size w w') := fun w' hb => Q.out.1.trans (hb.mono (by rw [Q.out.2.1]; omega))
  go_cut [9, 10] (fun s9 s10 wx => ∃ A3 c3 A4 c4, s9 = .slice A3 b.length c3 ∧ s10 = .slice A4 e.length c4 ∧ Row wx wx.heap.size A3 (b.map u64v) ∧ Row wx wx.heap.size A4 (e.map u64v) ∧ Below wa.heap.size wa wx)
  case first =>
    go_region_held3 (fun w' => (w'.cell? ⟨w.heap.size, 1, none⟩ = some (.slice A l.length c) ∧ w'.cell? ⟨w.heap.size + 1, 1, none⟩ = some (.slice A2 m.length d)) ∧ Below wa.heap.size wa w')
      (first
        | exact ⟨KC.out _ BL2, BL2⟩
        | exact ⟨KC.out _ BM2, BM2⟩
        | exact ⟨KC.out _ BL, BL⟩
        | exact ⟨KC.out _ BM, BM⟩
        | exact ⟨KC.out _ BD, BD⟩)
      (first
        | (go_at_call_of 42 l; refine (HB1.out wa.drew (BW.out _ BD)).mono ?_; rintro ee wl ⟨A3, c3, rfl, own3, bb⟩; have BL : Below wa.heap.size wa wl := BD.trans (bb.mono BD.size); have r3 := Row.of_own own3; clear own3 bb)
        | (go_at_call_of 42 m; refine (HB2.out wa.drew (BW.out _ BD)).mono ?_; rintro ee wm ⟨A4, c4, rfl, own4, bb⟩; have BM : Below wa.heap.size wa wm := BD.trans (bb.mono BD.size); have r4 := Row.of_own own4; clear own4 bb)
        | (go_at_call_of 42 l; refine (HB1.out wm (BW.out _ BM)).mono ?_; rintro ee wl ⟨A3, c3, rfl, own3, bb⟩; have BL2 : Below wa.heap.size wa wl := BM.trans (bb.mono BM.size); have r3 := Row.of_own own3; have r42 := (r4.below bb).more bb.size; clear own3 bb)
        | (go_at_call_of 42 m; refine (HB2.out wl (BW.out _ BL)).mono ?_; rintro ee wm ⟨A4, c4, rfl, own4, bb⟩; have BM2 : Below wa.heap.size wa wm := BL.trans (bb.mono BL.size); have r4 := Row.of_own own4; have r32 := (r3.below bb).more bb.size; clear own4 bb))
    all_goals (
      go_wp2_with fail
      go_meet
      first
        | exact ⟨_, _, _, _, rfl, rfl, r32, r4, BM2⟩
        | exact ⟨_, _, _, _, rfl, rfl, r3, r42, BL2⟩)
  case rest =>
  obtain ⟨A3, c3, A4, c4, rfl, rfl, r3, r4, hba⟩ := hcut
  rename World => w4
  have z4 : w4.heap.size ≤ w4.heap.size := Nat.le_refl _
  have zz : w.heap.size + 3 ≤ w4.heap.size := by have := hba.size; rw [Q.out.2.1] at this; exact this
  have b4 := BW.out _ hba
  have Q4 := Lib.hid (Q.out.2.2.1.below hba (by rw [Q.out.2.1]; omega))
  have P4 := Lib.hid (Q.out.2.2.2.1.below hba (by rw [Q.out.2.1]; omega))
  have R4 := Lib.hid (Q.out.2.2.2.2.below hba (by rw [Q.out.2.1]; omega))
  clear HB1 HB2 KC BD BW hba HH HH2
  go_wp2_with fail
  go_loopw [11, 12] (fun v i wr => ∃ k : Nat, k ≤ F ∧ i = .int .i64 k ∧ wr.ownsRow w4.heap.size 26 1 v k ((b.take k).map u64v) ∧ Below w4.heap.size w4 wr) (fun _ i _ => F - (intOf i).toNat)
  case atStart => exact ⟨0, Nat.zero_le _, rfl, World.ownsRow_nil _ _ _ _, Below.refl _ _⟩
  case round =>
    obtain ⟨k, hk, rfl, hown, hb⟩ := hrel
    have z := hb.size
    by_cases hlt : k < F
    · have hkb : k < b.length := by omega
      obtain ⟨ad, rfl, hbl, hcell⟩ := (r3.below (hb.mono z4)).map_at hkb
      have HS : Hid (b.take (k + 1) = b.take k ++ [b[k]]) := List.take_succ_eq_append_getElem hkb
      unfold u64v at hcell
      generalize b[k] = x at *
      go_wp2_with (at_builtin; refine wpList_push rfl _ _ _ rfl w4.heap.size 26 _ 8 elt_label _ _ _ _ rfl hown (.int .u64 (x : Nat)) rfl rfl (by unfold maxLen; omega) (by omega) z ?_; intro v5 w5 hown5 hb5)
      go_roundw
      case rel => exact ⟨k + 1, by omega, by go_num, by rw [HS.out, List.map_append]; exact hown5, hb.trans hb5⟩
      case measure => simp [intOf]; omega
    · obtain rfl : k = F := by omega
      go_wp2_with fail
      go_loopw [11, 13] (fun v i wr => ∃ j : Nat, j ≤ e.length ∧ i = .int .i64 j ∧ wr.ownsRow w4.heap.size 26 1 v (k + j) ((b.take k ++ e.take j).map u64v) ∧ Below w4.heap.size w4 wr) (fun _ i _ => e.length - (intOf i).toNat)
      case atStart => exact ⟨0, Nat.zero_le _, rfl, by simpa using hown, hb⟩
      case round =>
        clear hown hb z
        obtain ⟨j, hj, rfl, hown, hb⟩ := hrel
        have z := hb.size
        by_cases hlt2 : j < e.length
        · obtain ⟨ad, rfl, hbl, hcell⟩ := (r4.below hb).map_at hlt2
          have HS : Hid (b.take k ++ e.take (j + 1) = (b.take k ++ e.take j) ++ [e[j]]) := by show _ = _; rw [List.take_succ_eq_append_getElem hlt2, List.append_assoc]
          unfold u64v at hcell
          generalize e[j] = x at *
          go_wp2_with (at_builtin; refine wpList_push rfl _ _ _ rfl w4.heap.size 26 _ 8 elt_label _ _ _ _ rfl hown (.int .u64 (x : Nat)) rfl rfl (by unfold maxLen; omega) (by omega) z ?_; intro v5 w5 hown5 hb5)
          go_roundw
          case rel => exact ⟨j + 1, by omega, by go_num, by rw [HS.out, List.map_append, ← Nat.add_assoc]; exact hown5, hb.trans hb5⟩
          case measure => simp [intOf]; omega
        · obtain rfl : j = e.length := by omega
          rw [List.take_length] at hown
          go_wp2_with fail
          go_loopw [11, 14] (fun v i wr => ∃ q : Nat, T ≤ q ∧ q ≤ b.length ∧ i = .int .i64 q ∧ wr.ownsRow w4.heap.size 26 1 v (k + e.length + (q - T)) ((b.take k ++ e ++ (b.drop T).take (q - T)).map u64v) ∧ Below w4.heap.size w4 wr) (fun _ i _ => b.length - (intOf i).toNat)
          case atStart => exact ⟨T, Nat.le_refl _, hTb, rfl, by simpa using hown, hb⟩
          case round =>
            clear hown hb z
            obtain ⟨q, hTq, hq, rfl, hown, hb⟩ := hrel
            have z := hb.size
            by_cases hlt3 : q < b.length
            · obtain ⟨ad, rfl, hbl, hcell⟩ := (r3.below (hb.mono z4)).map_at hlt3
              have HS : Hid (b.take k ++ e ++ (b.drop T).take (q + 1 - T) = (b.take k ++ e ++ (b.drop T).take (q - T)) ++ [b[q]]) := by
                show _ = _
                have hl : q - T < (b.drop T).length := by rw [List.length_drop]; omega
                have hx : (b.drop T)[q - T]'hl = b[q] := by
                  rw [List.getElem_drop]
                  have : T + (q - T) = q := by omega
                  simp only [this]
                rw [show q + 1 - T = (q - T) + 1 by omega, List.take_succ_eq_append_getElem hl, ← List.append_assoc, hx]
              have HN : Hid (k + e.length + (q + 1 - T) = k + e.length + (q - T) + 1) := by show _ = _; omega
              unfold u64v at hcell
              generalize b[q] = x at *
              go_wp2_with (at_builtin; refine wpList_push rfl _ _ _ rfl w4.heap.size 26 _ 8 elt_label _ _ _ _ rfl hown (.int .u64 (x : Nat)) rfl rfl (by unfold maxLen; omega) (by omega) z ?_; intro v5 w5 hown5 hb5)
              go_roundw
              case rel => exact ⟨q + 1, by omega, by omega, by go_num, by rw [HS.out, HN.out, List.map_append]; exact hown5, hb.trans hb5⟩
              case measure => simp [intOf]; omega
            · obtain rfl : q = b.length := by omega
              rw [show (b.drop T).take (b.length - T) = b.drop T from List.take_of_length_le (by rw [List.length_drop]; omega)] at hown
              obtain ⟨A5, c5, rfl⟩ := own_form hown
              have Q5 := Lib.hid ((Q4.out.below hb (by omega)).drewN 1)
              have P5 := Lib.hid ((P4.out.below hb (by omega)).drewN 1)
              have R5 := Lib.hid ((R4.out.below hb (by omega)).drewN 1)
              have K5 := Lib.hid (And.intro (txt_cells Q5.out).1 (txt_cells P5.out).1)
              have M5 := Lib.hid ((Row.of_own hown).drewN 1)
              have b5 := b4.trans (hb.mono (by omega))
              have L5 : Hid ((b.take k ++ e ++ b.drop T).length = k + e.length + (b.length - T)) := by show _ = _; simp only [List.length_append, List.length_take, List.length_drop]; omega
              have ML : Hid (∀ x ∈ b.take k ++ e ++ b.drop T, x < 18446744073709551616) := mem_append_lt (mem_append_lt (fun x hx => HM.out x (List.mem_of_mem_take hx)) HM2.out) (fun x hx => HM.out x (List.mem_of_mem_drop hx))
              generalize b.take k ++ e ++ b.drop T = V at *
              clear hown
              have x1 : (0 : Int) ≤ (k : Int) := by omega
              have x2 : (k : Int) ≤ (S.length : Int) := by omega
              have x3 : (0 : Int) ≤ (T : Int) := by omega
              have x4 : (T : Int) ≤ (S.length : Int) := by omega
              have x5 : ¬ 9223372036854775807 < min k S.length + X.length := by omega
              have x6 : ¬ 9223372036854775807 < min k S.length + X.length + (S.length - T) := by omega
              go_wp2_with fail
              go_region_held3 (fun w' => w'.cell? ⟨w.heap.size, 0, none⟩ = some (.string ⟨S.toArray⟩) ∧ w'.cell? ⟨w.heap.size + 1, 0, none⟩ = some (.string ⟨X.toArray⟩))
                (first
                  | exact K5.out
                  | exact K6.out
                  | exact K7.out _)
                (first
                  | (go_at_call 69; refine (refPack_n A5 c5 wr.heap.size (k + e.length + (b.length - T)) V L5.out ML.out (by omega) wr.drew (Nat.le_refl _) M5.out).mono ?_; rintro e' w6 ⟨A6, c6, rfl, hown6, hb6⟩; have z6 : wr.heap.size ≤ w6.heap.size := hb6.size; have Q6 := Lib.hid (Q5.out.below hb6 (by show w.heap.size < wr.heap.size; omega)); have P6 := Lib.hid (P5.out.below hb6 (by show w.heap.size + 1 < wr.heap.size; omega)); have R6 := Lib.hid (R5.out.below hb6 (by show w.heap.size + 1 + 1 < wr.heap.size; omega)); have K6 := Lib.hid (And.intro (txt_cells Q6.out).1 (txt_cells P6.out).1); obtain ⟨y0, y1, y2, y3⟩ := txt_var R6.out; have b6 := (below_drewN b5 1).trans (hb6.mono (by show w.heap.size ≤ wr.heap.size; omega)); have hown6' : w6.ownsRow wr.heap.size 51 2 (.slice A6 (pack V).length c6) (pack V).length (flatR (pack V)) := hown6; have HO := Lib.hid hown6'; have HB6 := Lib.hid b6; clear hown6 hown6' hb6 b6; have K7 : Hid (∀ s, ((w6.setCell ⟨w.heap.size + 1 + 1, 0, none⟩ (.string s)).setCell ⟨w.heap.size + 1 + 1, 1, none⟩ (.slice A6 (pack V).length c6)).cell? ⟨w.heap.size, 0, none⟩ = some (.string ⟨S.toArray⟩) ∧ ((w6.setCell ⟨w.heap.size + 1 + 1, 0, none⟩ (.string s)).setCell ⟨w.heap.size + 1 + 1, 1, none⟩ (.slice A6 (pack V).length c6)).cell? ⟨w.heap.size + 1, 0, none⟩ = some (.string ⟨X.toArray⟩)) := fun s => ⟨(txt_cells ((Q6.out.far (p := ⟨w.heap.size + 1 + 1, 0, none⟩) (by show w.heap.size ≠ w.heap.size + 1 + 1; omega) _).far (p := ⟨w.heap.size + 1 + 1, 1, none⟩) (by show w.heap.size ≠ w.heap.size + 1 + 1; omega) _)).1, (txt_cells ((P6.out.far (p := ⟨w.heap.size + 1 + 1, 0, none⟩) (by show w.heap.size + 1 ≠ w.heap.size + 1 + 1; omega) _).far (p := ⟨w.heap.size + 1 + 1, 1, none⟩) (by show w.heap.size + 1 ≠ w.heap.size + 1 + 1; omega) _)).1⟩))
              go_wp2
              have E := givesT_end (S.take k ++ X ++ S.drop T) (text_splice S X k T) 0 HB6.out R6.out (by omega) (by omega) HO.out
              refine ret_text1 rfl _ _ (w.heap.size + 1 + 1) _ _ rfl E.1 rfl ?_
              obtain ⟨A9, c9, he9, E9⟩ := E.2
              simp only [Ending.returned.injEq, Value.tuple.injEq, Array.mk.injEq, List.cons.injEq] at he9
              exact ⟨_, _, congrArg Ending.returned he9.1, E9⟩
end Go.Proofs.YtgmeamefbfgbgaaDoor

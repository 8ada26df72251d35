/-
  Registers that no call made answer an error, and have nothing; what was handed in, or answered, may be written over: layer 9.
-/
import Derived.Test.YtcpijnoabipefaaRgAlive
import Derived.Test.YtcpijnoabipefaaRgNob
import Derived.Test.YtcpijnoabipefaaRgOpen
import Derived.Test.YtcpijnoabipefaaRgSame
import Derived.Test.YtcpijnoabipefaaRgDoes
import Derived.Laws.OwnMore
import Derived.Deep.RegionHeld3
namespace Go.Proofs.Ytcpijnoabipefaa
open Go.RowKit

theorem zeroC_zero : zeroC[0]? = some (.bool false) := by simp [zeroC]
set_option maxRecDepth 100000 in
theorem zero_built : Try.prog.built 53 [] = some zeroC := by kernel_rfl
theorem zero_run (w : World) : (zeroValue 53).run Try.prog w = .ok (.agg zeroC) w := by
  obtain ⟨i, hi, hiz⟩ := Option.map_eq_some_iff.1 zero_info
  simp [zeroValue, typeInfo, hi, hiz]
theorem txu_noneG (w : World) : Txu w none [] [] := ⟨Nat.zero_le _, by intro x hx; simp at hx, Nat.zero_le _, .inl rfl⟩
theorem nobG_nil (w : World) : NobG w (.pointer none) := .inl rfl
theorem nobG_zero {w : World} {g : Nat} (h : Blk w g 53 zeroC) : NobG w (.pointer (some ⟨g, 0, none⟩)) := .inr ⟨g, rfl, h.lt, (h.cell 0).trans zeroC_zero⟩

/-- a row of one run of one's own -/
theorem own_run {w : World} {base c : Nat} {A : Option Addr} (h : w.ownsRow base 58 2 (.slice A 1 c) 1 (flatR [(1, 1)])) : ∃ g, A = some ⟨g, 0, none⟩ ∧ base ≤ g ∧ g < w.heap.size ∧ w.cell? ⟨g, 0, none⟩ = some (.int .u64 (1 : Nat)) ∧ w.cell? ⟨g, 1, none⟩ = some (.int .i64 1) ∧ w.frozen? ⟨g, 1, none⟩ = false := by
  obtain ⟨g, c', e, hb, hl⟩ := own_at h (by decide)
  have e := (Value.slice.inj e).1
  subst e
  have hc := h.cells (g := g) rfl
  exact ⟨g, rfl, hb, hl, hc 0 _ rfl, hc 1 _ rfl, own_frozen h 1⟩
def nobR : List RegP × Nat := yankR newR 97 [97] [(1, 1)] false
theorem nobR_ok : nobR.2 = 0 := by decide +kernel
theorem nob_a : getR nobR.1 97 = (⟨true, [97], [(1, 1)], false⟩, 0) := by kernel_rfl
theorem nob_q : getR nobR.1 34 = (⟨true, [97], [(1, 1)], false⟩, 0) := by kernel_rfl

set_option maxRecDepth 100000 in
set_option maxHeartbeats 40000000 in
theorem regsNobody_walk (w : World) (r : ActG) (ha : ActGOk w r) :
    Calls Try.prog 6 #[.agg r.cells.toArray] w fun e w' => e = .returned (.bool true) ∧ Below w.heap.size w w' := by
  obtain ⟨n, S, A, l, c, b, cut, wide⟩ := r
  clear ha
  have K := Lib.hid (boxN w #[.int .i32 n, .string ⟨S.toArray⟩, .slice A l.length c, .bool b, .bool cut, .bool wide] 40)
  go_enter Try.func6, Try.ntmps6
  go_upto_region 3 with (go_at_call 7; refine (aliveG_any _).mono ?_; rintro e w1 ⟨rfl, b1⟩; replace K := Lib.hid (K.out.step b1); clear b1)
  have hzv := zero_run
  have K1 := Lib.hid ((boxN w1 zeroC 53).and (K.out.alloc _))
  go_upto_region 4 with (first
    | ((with_reducible refine at_box 53 _ ?_); refine wpList_newBox rfl 53 _ rfl zeroC rfl ?_))
  have K2 := Lib.hid ((boxN (w1.alloc (.cells zeroC 53)) #[.pointer none, .pointer (some ⟨w1.heap.size, 0, none⟩)] 24).and (K1.out.alloc _))
  have hz : (w1.alloc (.cells zeroC 53)).heap.size = w1.heap.size + 1 := by simp
  rw [hz] at K2
  clear K K1 hz hzv
  generalize (w1.alloc (.cells zeroC 53)).alloc (.cells #[.pointer none, .pointer (some ⟨w1.heap.size, 0, none⟩)] 24) = wd at *
  generalize w1.heap.size = g1 at *
  go_wp2_with fail
  go_loopw [21] (fun i wr => ∃ k : Nat, k ≤ 2 ∧ i = .int .i64 k ∧ Below wd.heap.size wd wr) (fun i _ => 2 - (intOf i).toNat)
  case atStart => exact ⟨0, by omega, rfl, Below.refl _ _⟩
  case round =>
    obtain ⟨k, hk, rfl, hb⟩ := hrel
    have K3 := Lib.hid (K2.out.step hb)
    by_cases hlt : k < 2
    · obtain ⟨p0, p1⟩ := pair_cells K3.out.now.1.1
      have hv : ∃ v, (if k = 0 then Value.pointer none else Value.pointer (some ⟨g1, 0, none⟩)) = v := ⟨_, rfl⟩
      obtain ⟨v, hv⟩ := hv
      have HN : Hid (Grow wr (fun w' => NobG w' v)) := by
        show Grow wr _
        refine grow_nobG ?_
        rw [← hv]
        split
        · exact nobG_nil _
        · exact nobG_zero K3.out.now.2.1.1
      rcases (by omega : k = 0 ∨ k = 1) with rfl | rfl
      all_goals
        first | rw [if_pos rfl] at hv | rw [if_neg (by decide)] at hv
        subst hv
        obtain ⟨d0, d1, d2, d3, d4, d5⟩ := six_cells K3.out.now.2.2.1
        go_upto_region 7 with (go_at_call 12; refine (nobGGet_any HN.out.now n).mono ?_; rintro e w3 ⟨rfl, b3⟩; replace K3 := Lib.hid (K3.out.step b3); replace HN := Lib.hid (HN.out.step b3); have HB3 := Lib.hid b3; clear b3)
        have K4 := Lib.hid ((boxN w3 #[.string ⟨#[]⟩, .slice none 0 0, .bool false] 33).and ((K3.out.and HN.out).alloc _))
        have B4 := Lib.hid ((hb.trans (HB3.out.mono hb.size)).alloc (Nat.le_trans hb.size HB3.out.size) (.cells #[.string ⟨#[]⟩, .slice none 0 0, .bool false] 33))
        clear d0 d1 d2 d3 d4 d5 p0 p1 K3 HN HB3
        generalize w3.alloc (.cells #[.string ⟨#[]⟩, .slice none 0 0, .bool false] 33) = w4 at *
        obtain ⟨d0, d1, d2, d3, d4, d5⟩ := six_cells K4.out.now.2.1.2.2.1
        obtain ⟨y0, y1, y2⟩ := en_cells K4.out.now.1.1
        have hw4 := B4.out.size
        go_wp2_with (first
          | (go_at_call 19; refine (nobGYank_any K4.out.now.2.2 n _ A l.length c b).mono ?_; rintro e w5 ⟨rfl, b5⟩; replace K4 := Lib.hid (K4.out.step b5); replace B4 := Lib.hid (B4.out.trans (b5.mono B4.out.size)); clear d0 d1 d2 d3 d4 d5 y0 y1 y2 b5; obtain ⟨d0, d1, d2, d3, d4, d5⟩ := six_cells K4.out.now.2.1.2.2.1; obtain ⟨y0, y1, y2⟩ := en_cells K4.out.now.1.1)
          | (go_at_call 10; refine (nobGDelete_any K4.out.now.2.2 n _ A l.length c b wide).mono ?_; rintro e w6 ⟨rfl, b6⟩; replace K4 := Lib.hid (K4.out.step b6); replace B4 := Lib.hid (B4.out.trans (b6.mono B4.out.size)); clear d0 d1 d2 d3 d4 d5 y0 y1 y2 b6; obtain ⟨d0, d1, d2, d3, d4, d5⟩ := six_cells K4.out.now.2.1.2.2.1; obtain ⟨y0, y1, y2⟩ := en_cells K4.out.now.1.1)
          | (go_at_call 16; refine (refGSame_any none none 0 0 [] [] [] [] false false _ (txu_noneG _) (txu_noneG _)).mono ?_; rintro e w7 ⟨rfl, b7⟩; replace K4 := Lib.hid (K4.out.step b7); replace B4 := Lib.hid (B4.out.trans (b7.mono B4.out.size)); clear b7)
          | (go_at_call 15; refine (nobGCopy_any K4.out.now.2.2).mono ?_; rintro e w8 ⟨rfl, hw⟩; subst w8))
        go_roundw
        case rel => first | exact ⟨1, by omega, by go_num, B4.out⟩ | exact ⟨2, by omega, by go_num, B4.out⟩
        case measure => simp [intOf]
    · obtain rfl : k = 2 := by omega
      have BW := Lib.hid K3.out.now.2.2.2
      have HO := Lib.hid nobR_ok
      have HA := Lib.hid nob_a
      have HQ := Lib.hid nob_q
      clear K3 K2 hb
      go_upto_region 13 with (go_at_call 8; refine (rgNew_any wr).mono ?_; rintro e w3 ⟨rfl, h3, b3, z3⟩; have H3 := Lib.hid h3.grow; have B3 := Lib.hid (BW.out.trans (b3.mono BW.out.size)); have hgw := BW.out.size; clear h3 b3 BW)
      have hg3 : wr.heap.size < w3.heap.size := by omega
      clear z3
      generalize wr.heap.size = g at *
      go_upto_region 14 with (go_at_call 20; refine (rgOne_any [97] _).mono ?_; rintro e w4 ⟨ga, rfl, hga, hba, b4⟩; have hga4 : ga < w4.heap.size := hba.lt; have X4 := Lib.hid (grow_blk hba); have H4 := Lib.hid (H3.out.now.more b4 (Q := fun k => k = g ∨ k = ga) (fun k hk => Or.inl hk) (fun k hk => by rcases hk with hk | hk; exact Or.inl hk; exact Or.inr (by omega)) (fun k hk => by have := b4.size; rcases hk with hk | hk <;> omega)).grow; have B4 := Lib.hid (B3.out.trans (b4.mono B3.out.size)); clear hba b4 H3 B3)
      have K5 := Lib.hid ((boxN w4 #[.string ⟨#[97]⟩, .slice (some ⟨ga, 0, none⟩) 1 1, .bool false] 33).and ((X4.out.and (H4.out.and (grow_bel B4.out))).alloc _))
      clear X4 H4 B4
      generalize w4.alloc (.cells #[.string ⟨#[97]⟩, .slice (some ⟨ga, 0, none⟩) 1 1, .bool false] 33) = wx at *
      obtain ⟨y0, y1, y2⟩ := en_cells K5.out.now.1.1
      have hne : ga ≠ g := by omega
      have hx4 : w4.heap.size < wx.heap.size := K5.out.now.1.1.lt
      go_upto_region 16 with (go_at_call 19; refine (rgYank_any K5.out.now.2.2.1 97 (by decide) _ 1 [97] [(1, 1)] false (txu_oneS K5.out.now.2.1)).mono ?_; intro e w5 hG; obtain ⟨rfl, hr, ht⟩ := GivesR.ok0 (r := nobR) hG HO.out; have E5 := Lib.hid (K5.out.now.1.1.tch ht (by omega)); have X5 := Lib.hid (K5.out.now.2.1.tch ht hne); have H5 := Lib.hid hr; have B5 := Lib.hid (K5.out.now.2.2.2.trans (ht.below K5.out.now.2.2.2.size (fun k hk => by omega))); have hz5 := ht.size; clear hG hr ht y0 y1 y2)
      clear K5
      obtain ⟨y0, y1, y2⟩ := en_cells E5.out
      obtain ⟨v0, v1⟩ := pair_cells X5.out
      have v2 := X5.out.frozen 1
      go_upto_region 17 with fail
      have H6 := Lib.hid (H5.out.far ((Tch.refl (fun k => k = ga) w5).setCell (p := ⟨ga, 1, none⟩) (fun _ => rfl) (.int .i64 9)) (Or.inr rfl) hne)
      have B6 := Lib.hid (B5.out.setCell (p := ⟨ga, 1, none⟩) (show w.heap.size ≤ ga by omega) (.int .i64 9))
      have hz6 : (w5.setCell ⟨ga, 1, none⟩ (.int .i64 9)).heap.size = w5.heap.size := by simp
      clear y0 y1 y2 v0 v1 v2 H5 B5 E5 X5
      generalize w5.setCell ⟨ga, 1, none⟩ (.int .i64 9) = w6 at *
      go_upto_region 18 with (go_at_call 12; refine (rgGet_any H6.out 97 (by decide)).mono ?_; rw [HA.out]; rintro e w7 ⟨A7, c7, rfl, own7, b7⟩; obtain ⟨g7, rfl, hg7, hl7, _⟩ := own_run own7; have H7 := Lib.hid (H6.out.more b7 (Q := fun k => (k = g ∨ k = ga) ∨ k = g7) (fun k hk => Or.inl hk) (fun k hk => by rcases hk with hk | hk; exact Or.inl hk; exact Or.inr (by omega)) (fun k hk => by have := b7.size; rcases hk with (hk | hk) | hk <;> omega)).grow; have O7 := Lib.hid own7; have B7 := Lib.hid (B6.out.trans (b7.mono B6.out.size)); clear own7 b7 H6 B6)
      have O8 := Lib.hid (O7.out.alloc (.cells #[.string ⟨#[97]⟩, .slice (some ⟨g7, 0, none⟩) 1 c7, .bool false] 33))
      have K8 := Lib.hid ((boxN w7 #[.string ⟨#[97]⟩, .slice (some ⟨g7, 0, none⟩) 1 c7, .bool false] 33).and ((H7.out.and (grow_bel B7.out)).alloc _))
      clear H7 O7 B7
      have hz8 : w7.heap.size < (w7.alloc (.cells #[.string ⟨#[97]⟩, .slice (some ⟨g7, 0, none⟩) 1 c7, .bool false] 33)).heap.size := by simp
      generalize w7.alloc (.cells #[.string ⟨#[97]⟩, .slice (some ⟨g7, 0, none⟩) 1 c7, .bool false] 33) = w8 at *
      obtain ⟨y0, y1, y2⟩ := en_cells K8.out.now.1.1
      obtain ⟨_, e, _, _, v0, v1, v2⟩ := own_run O8.out
      cases e
      go_upto_region 21 with fail
      have H9 := Lib.hid ((K8.out.now.2.1.far ((Tch.refl (fun k => k = g7) w8).setCell (p := ⟨g7, 1, none⟩) (fun _ => rfl) (.int .i64 7)) (Or.inr rfl) (by omega)).grow)
      have B9 := Lib.hid (K8.out.now.2.2.setCell (p := ⟨g7, 1, none⟩) (show w.heap.size ≤ g7 by omega) (.int .i64 7))
      clear y0 y1 y2 v0 v1 v2 O8 K8
      generalize w8.setCell ⟨g7, 1, none⟩ (.int .i64 7) = w9 at *
      go_upto_region 22 with (go_at_call 12; refine (rgGet_any H9.out.now 97 (by decide)).mono ?_; rw [HA.out]; rintro e w10 ⟨A10, c10, rfl, own10, b10⟩; have H10 := Lib.hid (H9.out.step b10); have O10 := Lib.hid (rowG_own own10); have B10 := Lib.hid (B9.out.trans (b10.mono B9.out.size)); clear own10 b10 H9 B9)
      have K11 := Lib.hid ((boxN w10 #[.string ⟨#[97]⟩, .slice A10 1 c10, .bool false] 33).and ((H10.out.and ((grow_rowG O10.out).and (grow_bel B10.out))).alloc _))
      clear H10 O10 B10
      generalize w10.alloc (.cells #[.string ⟨#[97]⟩, .slice A10 1 c10, .bool false] 33) = w11 at *
      go_upto_region 23 with (go_at_call 12; refine (rgGet_any K11.out.now.2.1 34 (by decide)).mono ?_; rw [HQ.out]; rintro e w12 ⟨A12, c12, rfl, own12, b12⟩; replace K11 := Lib.hid (K11.out.step b12); have O12 := Lib.hid (rowG_own own12); clear own12 b12)
      have K13 := Lib.hid ((boxN w12 #[.string ⟨#[97]⟩, .slice A12 1 c12, .bool false] 33).and ((K11.out.and (grow_rowG O12.out)).alloc _))
      clear K11 O12
      generalize w12.alloc (.cells #[.string ⟨#[97]⟩, .slice A12 1 c12, .bool false] 33) = w13 at *
      obtain ⟨y0, y1, y2⟩ := en_cells K13.out.now.1.1
      obtain ⟨z0, z1, z2⟩ := en_cells K13.out.now.2.1.1.1
      have hl12 : w12.heap.size < w13.heap.size := K13.out.now.1.1.lt
      have hl10 : w10.heap.size < w13.heap.size := K13.out.now.2.1.1.1.lt
      have KC : Hid (∀ w', Below w13.heap.size w13 w' → (w'.cell? ⟨w12.heap.size, 0, none⟩ = some (.string ⟨#[97]⟩) ∧ w'.cell? ⟨w12.heap.size, 1, none⟩ = some (.slice A12 1 c12) ∧ w'.cell? ⟨w12.heap.size, 2, none⟩ = some (.bool false)) ∧ (w'.cell? ⟨w10.heap.size, 0, none⟩ = some (.string ⟨#[97]⟩) ∧ w'.cell? ⟨w10.heap.size, 1, none⟩ = some (.slice A10 1 c10) ∧ w'.cell? ⟨w10.heap.size, 2, none⟩ = some (.bool false))) := fun w' h => ⟨⟨(h.cell (p := ⟨w12.heap.size, 0, none⟩) hl12).trans y0, (h.cell (p := ⟨w12.heap.size, 1, none⟩) hl12).trans y1, (h.cell (p := ⟨w12.heap.size, 2, none⟩) hl12).trans y2⟩, (h.cell (p := ⟨w10.heap.size, 0, none⟩) hl10).trans z0, (h.cell (p := ⟨w10.heap.size, 1, none⟩) hl10).trans z1, (h.cell (p := ⟨w10.heap.size, 2, none⟩) hl10).trans z2⟩
      have B0 : Hid (Below w13.heap.size w13 w13) := Below.refl _ _
      have BD : Hid (Below w13.heap.size w13 (w13.drewN 1)) := below_drewN (Below.refl _ w13) 1
      have T10 : Hid (∀ wz, Below w13.heap.size w13 wz → Txu wz A10 [97] [(1, 1)]) := fun wz hb => ⟨by simp [maxLen], by intro r hr; simp at hr; subst hr; simp, by simp [maxLen], (K13.out wz hb).2.1.2.2.1.row⟩
      have T12 : Hid (∀ wz, Below w13.heap.size w13 wz → Txu wz A12 [97] [(1, 1)]) := fun wz hb => ⟨by simp [maxLen], by intro r hr; simp at hr; subst hr; simp, by simp [maxLen], (K13.out wz hb).2.2.row⟩
      have BX := BD
      clear y0 y1 y2 z0 z1 z2
      go_cut [2] (fun s2 wx => s2 = .bool true ∧ Below w13.heap.size w13 wx)
      case first =>
        go_region_held3 (fun w' => (w'.cell? ⟨w12.heap.size, 0, none⟩ = some (.string ⟨#[97]⟩) ∧ w'.cell? ⟨w12.heap.size, 1, none⟩ = some (.slice A12 1 c12) ∧ w'.cell? ⟨w12.heap.size, 2, none⟩ = some (.bool false)) ∧ (w'.cell? ⟨w10.heap.size, 0, none⟩ = some (.string ⟨#[97]⟩) ∧ w'.cell? ⟨w10.heap.size, 1, none⟩ = some (.slice A10 1 c10) ∧ w'.cell? ⟨w10.heap.size, 2, none⟩ = some (.bool false)))
          (first | exact KC.out _ BX.out | exact KC.out _ BD.out | exact KC.out _ B0.out)
          (first
            | (go_at_call 20; refine (rgOne_any [97] _).mono ?_; rintro e wx ⟨ga, rfl, _, hga, bx⟩; have BX : Hid (Below w13.heap.size w13 wx) := BX.out.trans (bx.mono BX.out.size); have XO := Lib.hid (txu_oneS (b := 97) hga); clear hga bx)
            | (go_at_call_of 16 A10; refine (refGSame_any A10 _ c10 1 [97] [97] [(1, 1)] [(1, 1)] false false _ (T10.out _ BX.out) XO.out).mono ?_; rintro e wx ⟨rfl, bx⟩; have BX : Hid (Below w13.heap.size w13 wx) := BX.out.trans (bx.mono BX.out.size); clear bx)
            | (go_at_call_of 16 A12; refine (refGSame_any A12 _ c12 1 [97] [97] [(1, 1)] [(1, 1)] false false _ (T12.out _ BX.out) XO.out).mono ?_; rintro e wx ⟨rfl, bx⟩; have BX : Hid (Below w13.heap.size w13 wx) := BX.out.trans (bx.mono BX.out.size); clear bx))
        all_goals
          go_wp2_with fail
          go_meet
          exact ⟨rfl, BX.out⟩
      case rest =>
        obtain ⟨rfl, BX⟩ := hcut
        have KX := Lib.hid (K13.out.step BX).now.2.1.2.2.2
        go_wp2_with fail
        go_ret
        exact ⟨rfl, KX.out⟩
end Go.Proofs.Ytcpijnoabipefaa

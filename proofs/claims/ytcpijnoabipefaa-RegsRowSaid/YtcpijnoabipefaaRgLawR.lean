/-
  Behind wide deletions without a name the numbered registers have the last nine: layer 9.
-/
import Derived.Test.YtcpijnoabipefaaRgRow
import Derived.BigQuiet
import Derived.Deep.RegionHeld3
namespace Go.Proofs.Ytcpijnoabipefaa
open Go.RowKit

theorem text_grow {w : World} {A : Option Addr} {ts : List TextP} (h : Row w w.heap.size A (flatX ts)) {k : Nat} (hk : k < ts.length) : ∃ ad, A = some ad ∧ Grow w (fun w' => w'.cell? (ad.add (k * 2)) = some (.string ⟨ts[k].S.toArray⟩) ∧ w'.cell? ⟨(ad.add (k * 2)).block, (ad.add (k * 2)).off + 1, none⟩ = some (.slice ts[k].A ts[k].l.length ts[k].c)) := by
  obtain ⟨ad, e, _⟩ := text_at h hk
  refine ⟨ad, e, fun w' hb => ?_⟩
  obtain ⟨ad', e', _, h0, h1⟩ := text_at (h.below hb) hk
  rw [e] at e'
  injection e' with e'
  subst e'
  exact ⟨h0, h1⟩
set_option maxRecDepth 100000 in
set_option maxHeartbeats 40000000 in
theorem regsRow_walk (w : World) (A : Option Addr) (c : Nat) (ts : List TextP) (_hlen : ts.length ≤ maxLen) (hT : ∀ r ∈ ts, Txt w w.heap.size r.A r.S r.l) (row : Row w w.heap.size A (flatX ts)) :
    Calls Try.prog 3 #[.slice A ts.length c] w fun e w' => e = .returned (.bool true) ∧ Below w.heap.size w w' := by
  have HT := Lib.hid hT
  clear hT
  go_enter Try.func3, Try.ntmps3
  go_wp2_with (first
    | (go_at_call 7; refine (aliveG_any _).mono ?_; rintro e w1 ⟨rfl, b1⟩)
    | (go_at_call 8; refine (rgNew_any w1).mono ?_; rintro e w2 ⟨rfl, h2, b2, z2⟩))
  have K2 : Hid (RowG9 w w2 w1.heap.size (.slice none 0 0) [] newR) := ⟨World.ownsRow_nil _ _ _ _, h2.more (Below.refl _ _) (fun k hk => Or.inl hk) (fun k hk => by rcases hk with hk | hk; exact Or.inl hk; simp [Value.ownBlock] at hk) (fun k hk => by rcases hk with hk | hk; omega; simp [Value.ownBlock] at hk), b1.trans (b2.mono b1.size), b1.size, fun t ht => by simp at ht, nine_new⟩
  have hg : w.heap.size ≤ w1.heap.size := b1.size
  clear h2 b1 b2 z2
  generalize w1.heap.size = g at *
  go_loopw [4, 5] (fun gv i wr => ∃ k : Nat, k ≤ ts.length ∧ k ≤ 40 ∧ i = .int .i64 k ∧ ∃ A4 c4 gs R, gv = .slice A4 gs.length c4 ∧ RowG9 w wr g (.slice A4 gs.length c4) gs R ∧ gs.length ≤ k) (fun _ i _ => ts.length - (intOf i).toNat)
  case atStart => exact ⟨0, Nat.zero_le _, by omega, rfl, none, 0, [], newR, rfl, K2.out, Nat.zero_le _⟩
  case round =>
    obtain ⟨k, hk, hk40, rfl, A4, c4, gs, R, rfl, hx, hgs⟩ := hrel
    have K := Lib.hid (grow_rowG9 hx)
    clear K2 hx
    by_cases hin : k < ts.length ∧ k < 40
    · obtain ⟨hlt, h40⟩ := hin
      have hlt' : (k : Int) < (ts.length : Int) := by omega
      have h40' : (k : Int) < 40 := by omega
      obtain ⟨ad, rfl, hd⟩ := text_grow row hlt
      have HD := Lib.hid hd
      have HX := Lib.hid (HT.out ts[k] (List.getElem_mem hlt))
      clear hd
      obtain ⟨t, ht⟩ : ∃ t, t = ts[k] := ⟨_, rfl⟩
      rw [← ht] at HD HX
      clear ht
      obtain ⟨S, A1, c1, l⟩ := t
      dsimp only at HD HX
      obtain ⟨d0, d1⟩ := HD.out _ K.out.now.bl
      have hTX : Hid (∀ wz, Below w.heap.size w wz → Txu wz A1 S l) := fun wz hb => (Txt.below HX.out hb).more hb.size
      have hS := HX.out.hS
      have hl := HX.out.hl
      by_cases hf : S.length ≤ 5000 ∧ l.length ≤ 5000
      · by_cases hgood : goodT S l = true
        · have HR := Lib.hid (deleteR_good (R := R) hgood)
          go_upto_region 11 with (first
            | (go_at_call 9; refine (lawFits_any S hS l hl A1 c1 _).mono ?_; rw [decide_eq_true hf]; rintro e w3 ⟨rfl, b3⟩; replace K := Lib.hid (K.out.step b3); clear d0 d1 b3; obtain ⟨d0, d1⟩ := HD.out _ K.out.now.bl)
            | (go_at_call 10; refine (rgDelete_any K.out.now.rg 0 (by decide) A1 c1 S l false true (hTX.out _ K.out.now.bl)).mono ?_; intro e w4 hG; rw [HR.out] at hG; obtain ⟨rfl, hr, ht⟩ := hG; have HP := Lib.hid (K.out.now.push (t := ⟨S, A1, c1, l⟩) HX.out hr ht (K.out.now.nine.push K.out.now.rg.ok.len ⟨S, A1, c1, l⟩)); have B4 := Lib.hid (K.out.now.bl.trans (ht.below K.out.now.bl.size (fun k hk => by omega))); have Z4 := Lib.hid hr.tch; clear hr ht d0 d1; obtain ⟨d0, d1⟩ := HD.out _ B4.out))
          have hz4 := Z4.out
          go_wp2_with (at_builtin; refine wpList_pushT rfl (.tmp 39) (.tmp 44) 22 rfl (g + 1) 29 _ 2 40 elt_text9 29 (.slice A4 gs.length c4) gs.length (flatX gs) rfl HP.out.1 [.string ⟨S.toArray⟩, .slice A1 l.length c1] _ rfl rfl rfl (by simp [Value.oneCell']) (by unfold maxLen; omega) (by omega) (by omega) ?_; intro v5 w5 own5 t5 n5; rw [← flatX_snoc gs ⟨S, A1, c1, l⟩] at own5; obtain ⟨A5, c5, rfl⟩ := own_form own5; have K5 := Lib.hid (HP.out.2 _ _ own5 t5 n5); clear own5 t5 n5)
          go_roundw
          case rel => exact ⟨k + 1, by omega, by omega, by go_num, A5, c5, gs ++ [⟨S, A1, c1, l⟩], _, by simp, by simpa using K5.out, by simp; omega⟩
          case measure => simp [intOf]; omega
        · rw [Bool.not_eq_true] at hgood
          have HR := Lib.hid (deleteR_bad (R := R) hgood)
          go_wp2_with (first
            | (go_at_call 9; refine (lawFits_any S hS l hl A1 c1 _).mono ?_; rw [decide_eq_true hf]; rintro e w3 ⟨rfl, b3⟩; replace K := Lib.hid (K.out.step b3); clear d0 d1 b3; obtain ⟨d0, d1⟩ := HD.out _ K.out.now.bl)
            | (go_at_call 10; refine (rgDelete_any K.out.now.rg 0 (by decide) A1 c1 S l false true (hTX.out _ K.out.now.bl)).mono ?_; intro e w4 hG; rw [HR.out] at hG; obtain ⟨rfl, hr, ht⟩ := hG; replace K := Lib.hid (grow_rowG9 (K.out.now.same hr ht)); clear hr ht d0 d1; obtain ⟨d0, d1⟩ := HD.out _ K.out.now.bl)
            | (go_at_call 11; refine (refTGood_any A1 c1 _ S l _ (Nat.le_refl _) (hTX.out _ K.out.now.bl)).mono ?_; rw [hgood]; rintro e w5 ⟨rfl, b5⟩; replace K := Lib.hid (K.out.step b5); clear b5))
          go_roundw
          case rel => exact ⟨k + 1, by omega, by omega, by go_num, A4, c4, gs, R, rfl, K.out.now, by omega⟩
          case measure => simp [intOf]; omega
      · have hgood : goodT S l = false := by
          rw [Bool.eq_false_iff]
          intro h
          have := goodT_runs h
          exact hf ⟨by omega, by omega⟩
        go_wp2_with (first
          | (go_at_call 9; refine (lawFits_any S hS l hl A1 c1 _).mono ?_; rw [decide_eq_false hf]; rintro e w3 ⟨rfl, b3⟩; replace K := Lib.hid (K.out.step b3); clear d0 d1 b3; obtain ⟨d0, d1⟩ := HD.out _ K.out.now.bl)
          | (go_at_call 11; refine (refTGood_any A1 c1 _ S l _ (Nat.le_refl _) (hTX.out _ K.out.now.bl)).mono ?_; rw [hgood]; rintro e w5 ⟨rfl, b5⟩; replace K := Lib.hid (K.out.step b5); clear b5))
        go_roundw
        case rel => exact ⟨k + 1, by omega, by omega, by go_num, A4, c4, gs, R, rfl, K.out.now, by omega⟩
        case measure => simp [intOf]; omega
    · have h41 : gs.length ≤ 40 := by omega
      have hout : (¬ (k : Int) < (ts.length : Int)) ∨ ((k : Int) < (ts.length : Int) ∧ ¬ (k : Int) < 40) := by omega
      have BW := Lib.hid K.out.now.bl
      rcases hout with hx | ⟨hx, hy⟩
      all_goals
        go_wp2_with fail
        go_loopw [6] (fun i wq => ∃ q : Nat, 1 ≤ q ∧ q ≤ 10 ∧ i = .int .i64 q ∧ RowG9 w wq g (.slice A4 gs.length c4) gs R) (fun i _ => 10 - (intOf i).toNat)
        case atStart => exact ⟨1, Nat.le_refl _, by omega, rfl, K.out.now⟩
        case round =>
          obtain ⟨q, hq1, hq10, rfl, hk⟩ := hrel
          replace K := Lib.hid (grow_rowG9 hk)
          clear hk
          by_cases hq9 : q ≤ 9
          · have hq9' : (q : Int) ≤ 9 := by omega
            have hw1 : IntKind.i64.wrap (48 + (q : Int)) = 48 + (q : Int) := IntWalk.i64_in _ (by omega)
            by_cases hql : q ≤ gs.length
            · have HR := Lib.hid (K.out.now.nine.some_ hq1 hq9 hql)
              obtain ⟨t, ht⟩ : ∃ t, t = gs[gs.length - q]'(by omega) := ⟨_, rfl⟩
              have HT9 := Lib.hid (K.out.now.txt t (by rw [ht]; exact List.getElem_mem _))
              rw [← ht] at HR
              have hcell : Hid (∀ wz, RowG9 w wz g (.slice A4 gs.length c4) gs R → ∃ g4, A4 = some ⟨g4, 0, none⟩ ∧ g4 < wz.heap.size ∧ wz.cell? ⟨g4, (gs.length - q) * 2, none⟩ = some (.string ⟨t.S.toArray⟩) ∧ wz.cell? ⟨g4, (gs.length - q) * 2 + 1, none⟩ = some (.slice t.A t.l.length t.c)) := by
                show ∀ wz, _
                intro wz hz
                obtain ⟨g4, c', e, _, hl4⟩ := own_at hz.own (by omega)
                have e := (Value.slice.inj e).1
                have hc := hz.own.cells (g := g4) (by rw [e]; rfl)
                obtain ⟨f0, f1⟩ := flatX_get gs (gs.length - q) (by omega)
                rw [← ht] at f0 f1
                have f0 := hc _ _ f0
                have f1 := hc _ _ f1
                have hadd : ∀ j, (⟨g4, 0, none⟩ : Addr).add j = ⟨g4, j, none⟩ := fun j => by unfold Addr.add; split <;> simp_all
                rw [hadd] at f0 f1
                exact ⟨g4, e, hl4, f0, f1⟩
              clear ht
              obtain ⟨S, A1, c1, l⟩ := t
              dsimp only at HR hcell HT9
              have hng : ¬ ((gs.length : Int) < (q : Int)) := by omega
              go_upto_region 21 with (go_at_call 12; refine (rgGet_any K.out.now.rg (48 + (q : Int)) (by omega)).mono ?_; rw [HR.out]; rintro e w3 ⟨A3, c3, rfl, own3, b3⟩; have O3 := Lib.hid (rowG_own own3); replace K := Lib.hid (K.out.step b3); clear own3 b3)
              have K4 := Lib.hid ((boxN w3 #[.string ⟨S.toArray⟩, .slice A3 l.length c3, .bool false] 33).and ((K.out.and (grow_rowG O3.out)).alloc _))
              clear K O3
              generalize w3.alloc (.cells #[.string ⟨S.toArray⟩, .slice A3 l.length c3, .bool false] 33) = w4 at *
              obtain ⟨y0, y1, y2⟩ := en_cells K4.out.now.1.1
              obtain ⟨g4, rfl, hg4, v0, v1⟩ := hcell.out w4 K4.out.now.2.1
              have hlt3 : w3.heap.size < w4.heap.size := K4.out.now.1.1.lt
              obtain ⟨d, hd⟩ : ∃ d, gs.length - q = d := ⟨_, rfl⟩
              rw [hd] at v0 v1
              have hz : (gs.length : Int) - (q : Int) = (d : Int) := by omega
              have hww := wrap_small (d : Int) (by omega) (by omega)
              have hb0 : (0 : Int) ≤ (d : Int) := by omega
              have hb1 : (d : Int) < (gs.length : Int) := by omega
              have KC : Hid (∀ w', Below w4.heap.size w4 w' → (w'.cell? ⟨w3.heap.size, 0, none⟩ = some (.string ⟨S.toArray⟩) ∧ w'.cell? ⟨w3.heap.size, 1, none⟩ = some (.slice A3 l.length c3) ∧ w'.cell? ⟨w3.heap.size, 2, none⟩ = some (.bool false)) ∧ (w'.cell? ⟨g4, d * 2, none⟩ = some (.string ⟨S.toArray⟩) ∧ w'.cell? ⟨g4, d * 2 + 1, none⟩ = some (.slice A1 l.length c1))) := fun w' h => ⟨⟨(h.cell (p := ⟨w3.heap.size, 0, none⟩) hlt3).trans y0, (h.cell (p := ⟨w3.heap.size, 1, none⟩) hlt3).trans y1, (h.cell (p := ⟨w3.heap.size, 2, none⟩) hlt3).trans y2⟩, (h.cell (p := ⟨g4, d * 2, none⟩) hg4).trans v0, (h.cell (p := ⟨g4, d * 2 + 1, none⟩) hg4).trans v1⟩
              have B0 : Hid (Below w4.heap.size w4 w4) := Below.refl _ _
              have BD : Hid (Below w4.heap.size w4 (w4.drewN 1)) := below_drewN (Below.refl _ w4) 1
              have T1 : Hid (∀ wz, Below w4.heap.size w4 wz → Txu wz A1 S l) := fun wz hb => grow_txu ((Txt.below HT9.out K4.out.now.2.1.bl).more K4.out.now.2.1.bl.size) wz hb
              have T3 : Hid (∀ wz, Below w4.heap.size w4 wz → Txu wz A3 S l) := fun wz hb => ⟨HT9.out.hS, HT9.out.hf, HT9.out.hl, (K4.out wz hb).2.2.row⟩
              clear hd hcell v0 v1 y0 y1 y2
              go_cut [87] (fun s87 wx => s87 = .bool false ∧ Below w4.heap.size w4 wx)
              case first =>
                go_region_held3 (fun w' => (w'.cell? ⟨w3.heap.size, 0, none⟩ = some (.string ⟨S.toArray⟩) ∧ w'.cell? ⟨w3.heap.size, 1, none⟩ = some (.slice A3 l.length c3) ∧ w'.cell? ⟨w3.heap.size, 2, none⟩ = some (.bool false)) ∧ (w'.cell? ⟨g4, d * 2, none⟩ = some (.string ⟨S.toArray⟩) ∧ w'.cell? ⟨g4, d * 2 + 1, none⟩ = some (.slice A1 l.length c1)))
                  (first | exact KC.out _ BX.out | exact KC.out _ BD.out | exact KC.out _ B0.out)
                  (first
                    | (go_at_call 13; refine (refTSame_any A3 A1 c3 c1 _ _ S S l l _ (Nat.le_refl _) (Nat.le_refl _) (T3.out _ BD.out) (T1.out _ BD.out)).mono ?_; rw [decide_eq_true ⟨rfl, rfl⟩]; rintro e wx ⟨rfl, bx⟩; have BX : Hid (Below w4.heap.size w4 wx) := BD.out.trans (bx.mono BD.out.size); clear bx))
                all_goals
                  go_wp2_with fail
                  go_meet
                  exact ⟨rfl, BX.out⟩
              case rest =>
                obtain ⟨rfl, BX⟩ := hcut
                have K5 := Lib.hid (K4.out.step BX)
                go_wp2_with fail
                go_roundw
                case rel => exact ⟨q + 1, by omega, by omega, by go_num, K5.out.now.2.1⟩
                case measure => simp [intOf]; omega
            · have HR := Lib.hid (K.out.now.nine.none_ hq1 hq9 hql)
              have hng : (gs.length : Int) < (q : Int) := by omega
              go_wp2_with (go_at_call 12; refine (rgGet_any K.out.now.rg (48 + (q : Int)) (by omega)).mono ?_; rw [HR.out]; rintro e w3 ⟨A3, c3, rfl, own3, b3⟩; replace K := Lib.hid (K.out.step b3); clear own3 b3)
              go_roundw
              case rel => exact ⟨q + 1, by omega, by omega, by go_num, (K.out.alloc _).now⟩
              case measure => simp [intOf]; omega
          · have hq9' : ¬ (q : Int) ≤ 9 := by omega
            have BE := Lib.hid K.out.now.bl
            go_wp2_with fail
            go_ret
            exact ⟨rfl, BE.out⟩
end Go.Proofs.Ytcpijnoabipefaa

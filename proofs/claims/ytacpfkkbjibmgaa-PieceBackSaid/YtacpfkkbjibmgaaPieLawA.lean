/-
  What was there is there again when it is put back: layer 5.
-/
import Derived.Test.YtacpfkkbjibmgaaPiePlay
import Derived.Deep.RegionHeld3
namespace Go.Proofs.Ytacpfkkbjibmgaa
open Go.RowKit

set_option maxRecDepth 100000 in
set_option maxHeartbeats 40000000 in
theorem pieceBack_walk (w : World) (A : Option Addr) (c : Nat) (acs : List ActP) (_hlen : acs.length ≤ maxLen) (hA : ∀ a ∈ acs, ActOk w a) (row : Row w w.heap.size A (flatA acs)) (a : ActP) (ha : ActOk w a) :
    Calls Try.prog 6 #[.slice A acs.length c, .agg a.cells.toArray] w fun e w' => e = .returned (.bool true) ∧ Below w.heap.size w w' := by
  have HA := Lib.hid hA
  have Ha := Lib.hid ha
  clear hA ha
  have hlen := _hlen
  unfold maxLen at hlen
  have B0 := Lib.hid ((Below.refl w.heap.size w).alloc (Nat.le_refl _) (.cells a.cells.toArray 32))
  have Q0 := Lib.hid (Blk.new w 32 a.cells.toArray)
  go_enter Try.func6, Try.ntmps6
  go_wp2_with (first
    | (go_at_call 8; refine (pieAlive_any _).mono ?_; rintro e w1 ⟨rfl, b1⟩))
  have z1 : w.heap.size + 1 ≤ w1.heap.size := by have := b1.size; simpa using this
  have B1 := Lib.hid (B0.out.trans (b1.mono (by simp)))
  have Q1 := Lib.hid (Q0.out.below b1 (by simp))
  clear b1 B0 Q0
  refine (stoNew_any 4096 (by omega) w1).mono ?_
  rintro e w2 ⟨O2, rfl, b2, s2, o2⟩
  have P2 : Hid (Plays w1 w2 w1.heap.size 4096) := ⟨O2, _, _, s2, o2, b2⟩
  have z2 := b2.size
  clear b2 s2 o2
  go_wp2_with fail
  go_loopw [6] (fun i wr => ∃ k : Nat, k ≤ acs.length ∧ i = .int .i64 k ∧ Plays w1 wr w1.heap.size 4096) (fun i _ => acs.length - (intOf i).toNat)
  case atStart => exact ⟨0, Nat.zero_le _, rfl, P2.out⟩
  case round =>
    obtain ⟨k, hk, rfl, hp⟩ := hrel
    have PK := Lib.hid hp
    have zr : w1.heap.size ≤ wr.heap.size := by obtain ⟨_, _, _, _, _, hb⟩ := hp; exact hb.size
    have BR : Hid (Below w.heap.size w wr) := by obtain ⟨_, _, _, _, _, hb⟩ := hp; exact B1.out.trans (hb.mono (by omega))
    clear hp
    by_cases hin : k < acs.length ∧ k < 50
    · · obtain ⟨hlt, h50⟩ := hin
        have h50' : (k : Int) < 50 := by omega
        have hlt' : (k : Int) < (acs.length : Int) := by omega
        obtain ⟨ad, rfl, hbl, d0, d1, d2, d3, _, _⟩ := act_at (row.below BR.out) hlt
        have HTX := Lib.hid ((HA.out acs[k] (List.getElem_mem hlt)).txt)
        generalize acs[k] = r at *
        obtain ⟨f, t, X, A', c', m, cu, fo⟩ := r
        dsimp only at d0 d1 d2 d3 HTX
        have HTS : Hid (X.length ≤ maxLen ∧ m.length ≤ maxLen) := ⟨HTX.out.hS, HTX.out.hl⟩
        by_cases hfit : X.length ≤ 5000 ∧ m.length ≤ 5000
        · go_wp2_with (first
            | (go_at_call 10; refine (lawFits_any X HTS.out.1 m HTS.out.2 A' c' _).mono ?_; rw [decide_eq_true hfit]; rintro e w3 ⟨rfl, b3⟩))
          have z3 := b3.size
          have P3 := Lib.hid (PK.out.fresh b3)
          have TX := Lib.hid (HTX.out.below (BR.out.trans (b3.mono (by omega))))
          have HDR : Below w3.heap.size w3 w3.drew := below_drewN (Below.refl _ w3) 1
          have PD := Lib.hid (P3.out.fresh HDR)
          have TD := Lib.hid (TX.out.below (HDR.mono (by omega)))
          clear HDR
          have E0 := Lib.hid ((b3.cell (by rw [add_block]; omega)).trans d0)
          have E1 := Lib.hid ((b3.cell (p := ⟨(ad.add (k * 6)).block, (ad.add (k * 6)).off + 1, none⟩) (by show (ad.add (k * 6)).block < _; rw [add_block]; omega)).trans d1)
          have E2 := Lib.hid ((b3.cell (p := ⟨(ad.add (k * 6)).block, (ad.add (k * 6)).off + 2, none⟩) (by show (ad.add (k * 6)).block < _; rw [add_block]; omega)).trans d2)
          have E3 := Lib.hid ((b3.cell (p := ⟨(ad.add (k * 6)).block, (ad.add (k * 6)).off + 3, none⟩) (by show (ad.add (k * 6)).block < _; rw [add_block]; omega)).trans d3)
          clear d0 d1 d2 d3 b3
          have x0 := E0.out
          have x1 := E1.out
          have x2 := E2.out
          have x3 := E3.out
          go_region_law (go_simp; go_at_call 15; refine (plays_put PD.out (by omega) A' c' X m f t TD.out).mono ?_; rintro e w4 ⟨n4, rfl, p4⟩)
          all_goals
            go_wp2_with fail
            go_roundw
            case rel => exact ⟨k + 1, by omega, by go_num, p4⟩
            case measure => simp [intOf]; omega
        · go_wp2_with (first
            | (go_at_call 10; refine (lawFits_any X HTS.out.1 m HTS.out.2 A' c' _).mono ?_; rw [decide_eq_false hfit]; rintro e w3 ⟨rfl, b3⟩))
          go_roundw
          case rel => exact ⟨k + 1, by omega, by go_num, PK.out.fresh b3⟩
          case measure => simp [intOf]; omega
    · have hout : (¬ (k : Int) < (acs.length : Int)) ∨ ((k : Int) < (acs.length : Int) ∧ ¬ (k : Int) < 50) := by omega
      have QR : Hid (Blk wr w.heap.size 32 a.cells.toArray) := Q1.out.below (B := w1.heap.size) (by obtain ⟨_, _, _, _, _, hb⟩ := PK.out; exact hb) (by omega)
      have HTA : Hid (Txt wr w.heap.size a.A a.S a.l) := Ha.out.txt.below BR.out
      have HTS : Hid (a.S.length ≤ maxLen ∧ a.l.length ≤ maxLen) := ⟨Ha.out.txt.hS, Ha.out.txt.hl⟩
      obtain ⟨f, t, X, A', c', m, cu, fo⟩ := a
      dsimp only [ActP.cells] at *
      have c0 : wr.cell? ⟨w.heap.size, 0, none⟩ = some (.int .i64 f) := by have := QR.out.cell 0; simpa using this
      have c1 : wr.cell? ⟨w.heap.size, 1, none⟩ = some (.int .i64 t) := by have := QR.out.cell 1; simpa using this
      have c2 : wr.cell? ⟨w.heap.size, 2, none⟩ = some (.string ⟨X.toArray⟩) := by have := QR.out.cell 2; simpa using this
      have c3 : wr.cell? ⟨w.heap.size, 3, none⟩ = some (.slice A' m.length c') := by have := QR.out.cell 3; simpa using this
      by_cases hfit : X.length ≤ 5000 ∧ m.length ≤ 5000
      · rcases hout with hx | ⟨hx, hy⟩
        all_goals
          go_upto_region 13 with (first
            | (go_at_call 10; refine (lawFits_any X HTS.out.1 m HTS.out.2 A' c' _).mono ?_; rw [decide_eq_true hfit]; rintro e w3 ⟨rfl, b3⟩))
          have z3 := b3.size
          have Q3 := Lib.hid (QR.out.below b3 (by omega))
          have TX3 := Lib.hid (HTA.out.below (b3.mono (by omega)))
          have B3 := Lib.hid (BR.out.trans (b3.mono (by omega)))
          obtain ⟨O, S, b, s3, o3, bb3⟩ := PK.out.fresh b3
          have S3 := Lib.hid s3
          clear c0 c1 c2 c3 PK QR HTA BR b3 s3 HA Ha B1 row bb3 P2
          go_upto_region 14 with (go_at_call 16; refine (stoText_any S3.out).mono ?_; rintro e w4 ⟨A7, c7, rfl, own7, b4⟩)
          have z4 := b4.size
          have hz : (w4.alloc (.cells #[.string ⟨S.toArray⟩, .slice A7 (pack b).length c7] 28)).heap.size = w4.heap.size + 1 := by simp
          have b5 : Below w3.heap.size w3 (w4.alloc (.cells #[.string ⟨S.toArray⟩, .slice A7 (pack b).length c7] 28)) := b4.alloc z4 _
          have G5 := Lib.hid (Blk.new w4 28 #[.string ⟨S.toArray⟩, .slice A7 (pack b).length c7])
          have F5 : Hid (RowF (w4.alloc (.cells #[.string ⟨S.toArray⟩, .slice A7 (pack b).length c7] 28)) O A7 (flatR (pack b))) := (RowF.of_own own7 (fun k hk _ ho => by have := S3.out.lt k ho; omega)).chg (Chg.of_fresh ((Below.refl _ _).alloc (Nat.le_refl _) _))
          generalize w4.alloc (.cells #[.string ⟨S.toArray⟩, .slice A7 (pack b).length c7] 28) = w5 at *
          have S5 := Lib.hid (S3.out.fresh b5)
          have Q5 := Lib.hid (Q3.out.below b5 (by omega))
          have TX5 := Lib.hid (TX3.out.below (b5.mono (by omega)))
          have B5 := Lib.hid (B3.out.trans (b5.mono (by omega)))
          have HO : Hid (∀ k, O k → k < w4.heap.size) := fun k hk => Nat.lt_of_lt_of_le (S3.out.lt k hk) z4
          clear S3 Q3 TX3 B3 own7 b4 b5
          obtain ⟨c0, c1, c2, c3⟩ := act_cells Q5.out
          obtain ⟨U, l8, n8, hcs⟩ : ∃ U l8 n8, cutS S b f t = ((U, l8), n8) := ⟨_, _, _, rfl⟩
          go_upto_region 15 with (go_at_call 11; refine (stoCut_any S5.out f t).mono ?_; rw [hcs]; rintro e w6 ⟨A8, c8, rfl, own8, b6⟩; dsimp only at own8 ⊢)
          have z6 := b6.size
          have hz7 : (w6.alloc (.cells #[.string ⟨U.toArray⟩, .slice A8 l8.length c8] 28)).heap.size = w6.heap.size + 1 := by simp
          have b7 : Below w5.heap.size w5 (w6.alloc (.cells #[.string ⟨U.toArray⟩, .slice A8 l8.length c8] 28)) := b6.alloc z6 _
          have G8 := Lib.hid (Blk.new w6 28 #[.string ⟨U.toArray⟩, .slice A8 l8.length c8])
          have F8 : Hid (RowF (w6.alloc (.cells #[.string ⟨U.toArray⟩, .slice A8 l8.length c8] 28)) O A8 (flatR l8)) := (RowF.of_own own8 (fun k hk _ ho => by have := S5.out.lt k ho; omega)).chg (Chg.of_fresh ((Below.refl _ _).alloc (Nat.le_refl _) _))
          generalize w6.alloc (.cells #[.string ⟨U.toArray⟩, .slice A8 l8.length c8] 28) = w7 at *
          have S7 := Lib.hid (S5.out.fresh b7)
          have Q7 := Lib.hid (Q5.out.below b7 (by omega))
          have TX7 := Lib.hid (TX5.out.below (b7.mono (by omega)))
          have B7 := Lib.hid (B5.out.trans (b7.mono (by omega)))
          have G7 := Lib.hid (G5.out.below b7 (by omega))
          have F7 := Lib.hid (F5.out.chg (Chg.of_fresh b7))
          have HO6 : Hid (∀ k, O k → k < w6.heap.size) := fun k hk => by have := HO.out k hk; omega
          have z7 := b7.size
          clear S5 Q5 TX5 B5 G5 F5 own8 b6 b7 c0 c1 c2 c3
          obtain ⟨c0, c1, c2, c3⟩ := act_cells Q7.out
          go_upto_region 16 with (go_at_call 15; refine (stoPut_any S7.out A' c' X m f t TX7.out.hS TX7.out.hf TX7.out.hl (RowF.of_row TX7.out.row (by omega) (fun k hk h => by have := o3 k h; omega))).mono ?_; rintro e w8 ⟨O8, rfl, s8, p8, ch8⟩)
          have z8 := ch8.size
          have S8 := Lib.hid s8
          have Q8 := Lib.hid (Q7.out.chg ch8 (fun h => by have := o3 _ h; omega))
          have TX8 : Hid (Txt w8 w.heap.size A' X m) := TX7.out.below ((ch8.below (B := w1.heap.size) (by omega) o3).mono (by omega))
          have B8 : Hid (Below w.heap.size w w8) := B7.out.trans ((ch8.below (B := w1.heap.size) (by omega) o3).mono (by omega))
          have G78 := Lib.hid (G7.out.chg ch8 (fun h => Nat.lt_irrefl _ (HO.out _ h)))
          have G88 := Lib.hid (G8.out.chg ch8 (fun h => Nat.lt_irrefl _ (HO6.out _ h)))
          have F78 := Lib.hid (rowF_put F7.out ch8 p8)
          have F88 := Lib.hid (rowF_put F8.out ch8 p8)
          have P8 : Hid (∀ k, O8 k → w1.heap.size ≤ k) := fun k hk => (p8 k hk).elim (o3 k) (fun h => by omega)
          have N7 : Hid (¬ O8 w4.heap.size) := fun h => (p8 _ h).elim (fun h => Nat.lt_irrefl _ (HO.out _ h)) (fun h => by omega)
          have N8 : Hid (¬ O8 w6.heap.size) := fun h => (p8 _ h).elim (fun h => Nat.lt_irrefl _ (HO6.out _ h)) (fun h => by omega)
          have hL := S7.out.lens
          have hFT := Lib.hid (S7.out.fits)
          have HL := Lib.hid hL
          have hbl := hL.1
          have hsl := hL.2.1
          have T78 : Hid (Txt w8 w8.heap.size A7 S (pack b)) := ⟨by unfold maxLen; omega, hFT.out.1, by have := hFT.out.2.1; unfold maxLen; omega, F78.out.row⟩
          clear S7 Q7 TX7 B7 G7 F7 G8 F8 ch8 s8 p8 c0 c1 c2 c3 hL
          obtain ⟨c0, c1, c2, c3⟩ := act_cells Q8.out
          obtain ⟨y0, y1⟩ := txt_cells G78.out
          by_cases hE : putE S 4096 f t X m = 0
          · obtain ⟨U', v, hv1, hv2, hv3, hcut', h0, hf4, hX4, hmid, hE2, hS2, hB2⟩ := put_back (b := b) hbl hsl (by omega) hE
            rw [hcs] at hcut'
            obtain ⟨⟨rfl, rfl⟩, hn8⟩ : (U = U' ∧ l8 = pack v) ∧ n8 = 0 := by simpa using hcut'
            have hn : (n8 : Int) = 0 := by omega
            have hE' : ((putE S 4096 f t X m : Nat) : Int) = 0 := by omega
            have hw := wrap_small (f + (X.length : Int)) (by omega) (by omega)
            have HMID := Lib.hid hmid
            have HE2 := Lib.hid hE2
            have HS2 := Lib.hid hS2
            have HB2 := Lib.hid hB2
            have HCS := Lib.hid hcs
            have HV : Hid (Fits (pack v) ∧ (pack v).length ≤ maxLen ∧ U.length ≤ maxLen) := ⟨fits_pack (fun x hx => HL.out.2.2.2.1 x (hv3 x hx)) (by omega), pack_small (by omega), by unfold maxLen; omega⟩
            clear hmid hE2 hS2 hB2 hcs hcut' hv1 hv3
            generalize putS S 4096 f t X m = S2 at *
            generalize putB S b 4096 f t X m = b2 at *
            go_upto_region 19 with (go_at_call 11; refine (stoCut_any S8.out f (f + (X.length : Int))).mono ?_; rw [HMID.out]; rintro e w9 ⟨A9, c9, rfl, own9, b9⟩; dsimp only at own9 ⊢)
            have z9 := b9.size
            have hz10 : (w9.alloc (.cells #[.string ⟨X.toArray⟩, .slice A9 m.length c9] 28)).heap.size = w9.heap.size + 1 := by simp
            have b10 : Below w8.heap.size w8 (w9.alloc (.cells #[.string ⟨X.toArray⟩, .slice A9 m.length c9] 28)) := b9.alloc z9 _
            have G9 := Lib.hid (Blk.new w9 28 #[.string ⟨X.toArray⟩, .slice A9 m.length c9])
            have T9 : Hid (Txt (w9.alloc (.cells #[.string ⟨X.toArray⟩, .slice A9 m.length c9] 28)) w9.heap.size A9 X m) := ⟨TX8.out.hS, TX8.out.hf, TX8.out.hl, (Row.of_own own9).below ((Below.refl _ _).alloc (Nat.le_refl _) _)⟩
            generalize w9.alloc (.cells #[.string ⟨X.toArray⟩, .slice A9 m.length c9] 28) = w10 at *
            have S10 := Lib.hid (S8.out.fresh b10)
            have Q10 := Lib.hid (Q8.out.below b10 (by omega))
            have TX10 := Lib.hid (TX8.out.below (b10.mono (by omega)))
            have B10 := Lib.hid (B8.out.trans (b10.mono (by omega)))
            have G710 := Lib.hid (G78.out.below b10 (by omega))
            have G810 := Lib.hid (G88.out.below b10 (by omega))
            have F710 := Lib.hid (F78.out.chg (Chg.of_fresh b10))
            have F810 := Lib.hid (F88.out.chg (Chg.of_fresh b10))
            have N9 : Hid (¬ O8 w9.heap.size) := fun h => by have := S8.out.lt _ h; omega
            have N0 : Hid (¬ O8 w.heap.size) := fun h => by have := P8.out _ h; omega
            have KS : Hid (∀ w', Chg O8 w10 w' → (w'.cell? ⟨w.heap.size, 0, none⟩ = some (.int .i64 f) ∧ w'.cell? ⟨w.heap.size, 2, none⟩ = some (.string ⟨X.toArray⟩) ∧ w'.cell? ⟨w.heap.size, 3, none⟩ = some (.slice A' m.length c')) ∧
                (w'.cell? ⟨w9.heap.size, 0, none⟩ = some (.string ⟨X.toArray⟩) ∧ w'.cell? ⟨w9.heap.size, 1, none⟩ = some (.slice A9 m.length c9)) ∧ (w'.cell? ⟨w6.heap.size, 0, none⟩ = some (.string ⟨U.toArray⟩) ∧ w'.cell? ⟨w6.heap.size, 1, none⟩ = some (.slice A8 (pack v).length c8)) ∧
                (w'.cell? ⟨w4.heap.size, 0, none⟩ = some (.string ⟨S.toArray⟩) ∧ w'.cell? ⟨w4.heap.size, 1, none⟩ = some (.slice A7 (pack b).length c7))) := fun w' hc => by
              obtain ⟨k0, k1, k2, k3⟩ := act_cells (Q10.out.chg hc N0.out)
              exact ⟨⟨k0, k2, k3⟩, txt_cells (G9.out.chg hc N9.out), txt_cells (G810.out.chg hc N8.out), txt_cells (G710.out.chg hc N7.out)⟩
            have CX : Hid (Chg O8 w10 w10) := Chg.refl _ _
            have HDR : Hid (Below w10.heap.size w10 (w10.drewN 1)) := below_drewN (Below.refl _ w10) 1
            have T9d := Lib.hid (T9.out.below (HDR.out.mono (by omega)))
            have TXd := Lib.hid (TX10.out.below (HDR.out.mono (by omega)))
            clear c0 c1 c2 c3 y0 y1 S8 Q8 TX8 B8 G78 G88 F78 F88 own9 b9 b10 Q10 G710 G810 G9 T9
            go_region_held3 (fun w' => (w'.cell? ⟨w.heap.size, 0, none⟩ = some (.int .i64 f) ∧ w'.cell? ⟨w.heap.size, 2, none⟩ = some (.string ⟨X.toArray⟩) ∧ w'.cell? ⟨w.heap.size, 3, none⟩ = some (.slice A' m.length c')) ∧
                (w'.cell? ⟨w9.heap.size, 0, none⟩ = some (.string ⟨X.toArray⟩) ∧ w'.cell? ⟨w9.heap.size, 1, none⟩ = some (.slice A9 m.length c9)) ∧ (w'.cell? ⟨w6.heap.size, 0, none⟩ = some (.string ⟨U.toArray⟩) ∧ w'.cell? ⟨w6.heap.size, 1, none⟩ = some (.slice A8 (pack v).length c8)) ∧
                (w'.cell? ⟨w4.heap.size, 0, none⟩ = some (.string ⟨S.toArray⟩) ∧ w'.cell? ⟨w4.heap.size, 1, none⟩ = some (.slice A7 (pack b).length c7)))
              (first | exact KS.out _ CX.out | exact KS.out _ (Chg.drewN CX.out 1))
              (first
                | (go_at_call_of 13 A'; refine (refTSame_any A9 A' c9 c' w9.heap.size w.heap.size X X m m _ (by show w9.heap.size ≤ w10.heap.size; omega) (by show w.heap.size ≤ w10.heap.size; omega) T9d.out TXd.out).mono ?_; rw [decide_eq_true ⟨rfl, rfl⟩]; rintro e w11 ⟨rfl, b11⟩; have z11 : w10.heap.size ≤ w11.heap.size := b11.size; have b11' : Below w10.heap.size w10 w11 := HDR.out.trans b11; have CX : Hid (Chg O8 w10 w11) := Chg.of_fresh b11'; have S11 := Lib.hid (S10.out.fresh b11'); have F711 := Lib.hid (F710.out.chg CX.out); have F811 := Lib.hid (F810.out.chg CX.out); clear b11 b11')
                | (go_at_call 15; refine (stoPut_any S11.out A8 c8 U (pack v) f (f + (X.length : Int)) HV.out.2.2 HV.out.1 HV.out.2.1 F811.out).mono ?_; rw [HE2.out, HS2.out, HB2.out]; rintro e w12 ⟨O12, rfl, s12, p12, ch12⟩; have z12 := ch12.size; have S12 := Lib.hid s12; have CX := Lib.hid (CX.out.trans ch12); have T712 : Hid (Txt w12 w12.heap.size A7 S (pack b)) := ⟨T78.out.hS, T78.out.hf, T78.out.hl, (rowF_put F711.out ch12 p12).row⟩; clear s12 p12 ch12)
                | (go_at_call 16; refine (stoText_any S12.out).mono ?_; rintro e w13 ⟨A13, c13, rfl, own13, b13⟩; have z13 := b13.size; have CX : Hid (Chg O8 w10 w13) := CX.out.trans (Chg.of_fresh b13); have T13 : Hid (Txt w13 w13.heap.size A13 S (pack b)) := ⟨T78.out.hS, T78.out.hf, T78.out.hl, Row.of_own own13⟩; have T713 := Lib.hid (T712.out.below b13); clear own13 b13)
                | (go_at_call_of 13 A7; refine (refTSame_any A13 A7 c13 c7 w13.heap.size w12.heap.size S S (pack b) (pack b) w13 (Nat.le_refl _) z13 T13.out T713.out).mono ?_; rw [decide_eq_true ⟨rfl, rfl⟩]; rintro e w14 ⟨rfl, b14⟩; have CX : Hid (Chg O8 w10 w14) := CX.out.trans (Chg.of_fresh b14)))
            go_wp2_with fail
            go_ret
            exact ⟨rfl, B10.out.trans ((CX.out.below (B := w1.heap.size) (by omega) P8.out).mono (by omega))⟩
          · have HPB := Lib.hid (put_bad (b := b) hE)
            have hE' : ¬ ((putE S 4096 f t X m : Nat) : Int) = 0 := by omega
            rw [HPB.out.1, HPB.out.2] at S8
            by_cases hn : (n8 : Int) = 0
            all_goals
              have S8d : Hid (Sto (w8.drewN 1) O8 w1.heap.size 4096 S b) := S8.out.fresh (below_drewN (Below.refl _ w8) 1)
              have YC : Hid (w8.cell? ⟨w4.heap.size, 0, none⟩ = some (.string ⟨S.toArray⟩) ∧ w8.cell? ⟨w4.heap.size, 1, none⟩ = some (.slice A7 (pack b).length c7)) := ⟨y0, y1⟩
              go_upto_region 17 with (fail)
              go_region_held3 (fun w' => w'.cell? ⟨w4.heap.size, 0, none⟩ = some (.string ⟨S.toArray⟩) ∧ w'.cell? ⟨w4.heap.size, 1, none⟩ = some (.slice A7 (pack b).length c7))
                (first
                  | exact YC.out
                  | exact K9.out
                  | exact K10.out)
                (first
                  | (go_at_call 16; refine (stoText_any S8d.out).mono ?_; rintro e w9 ⟨A9, c9, rfl, own9, b9⟩; have z9 : w8.heap.size ≤ w9.heap.size := b9.size; have b9' : Below w8.heap.size w8 w9 := Below.trans (below_drewN (Below.refl w8.heap.size w8) 1) b9; have K9 := Lib.hid (txt_cells (G78.out.below b9' (by omega))); have T9 : Hid (Txt w9 w9.heap.size A9 S (pack b)) := ⟨T78.out.hS, T78.out.hf, T78.out.hl, Row.of_own own9⟩; have T79 := Lib.hid (T78.out.below b9'); have G79 := Lib.hid (G78.out.below b9' (by omega)); have B9 := Lib.hid (B8.out.trans (b9'.mono (by omega))); clear own9 b9 b9')
                  | (go_at_call 13; refine (refTSame_any A9 A7 c9 c7 w9.heap.size w8.heap.size S S (pack b) (pack b) w9 (Nat.le_refl _) z9 T9.out T79.out).mono ?_; rw [decide_eq_true ⟨rfl, rfl⟩]; rintro e w10 ⟨rfl, b10⟩; have K10 := Lib.hid (txt_cells (G79.out.below b10 (by omega)))))
              go_wp2_with fail
              go_ret
              exact ⟨rfl, B9.out.trans (b10.mono (by omega))⟩
      · rcases hout with hx | ⟨hx, hy⟩
        all_goals
          go_wp2_with (first
            | (go_at_call 10; refine (lawFits_any X HTS.out.1 m HTS.out.2 A' c' _).mono ?_; rw [decide_eq_false hfit]; rintro e w3 ⟨rfl, b3⟩))
          go_ret
          exact ⟨rfl, BR.out.trans (b3.mono (by omega))⟩
end Go.Proofs.Ytacpfkkbjibmgaa

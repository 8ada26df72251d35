/-
  A text to which all edits are applied is at each state what it was when that was made: layer 8.
-/
import Derived.Test.YtfeaffabminpfaaHiTextK
import Derived.Test.YtfeaffabminpfaaHiAlive
import Derived.Test.YtfeaffabminpfaaHiDoes
import Derived.Deep.RegionHeld3
import Derived.Deep.CutRange
import Derived.Deep.CutBlock
namespace Go.Proofs.Ytfeaffabminpfaa
open Go.RowKit

theorem boxT (w : World) (c8 : Array Value) (T : TypeId) : Grow (w.alloc (.cells c8 T)) (fun w' => Blk w' w.heap.size T c8 ∧ Below w.heap.size w w') :=
  (blk_box w).and (grow_bel ((Below.refl _ w).alloc (Nat.le_refl _) _))

set_option maxRecDepth 100000 in
set_option maxHeartbeats 40000000 in
theorem histTexts_walk (w : World) (n : Int) (_hn : -9223372036854775808 ≤ n ∧ n ≤ 9223372036854775807) (A : Option Addr) (c : Nat) (S : List UInt8) (l : List RunP) (h : Txt w w.heap.size A S l) (A2 : Option Addr) (c2 : Nat) (acs : List ActE) (_hlen : acs.length ≤ maxLen) (hA : ∀ a ∈ acs, ActEOk w a) (row : Row w w.heap.size A2 (flatE acs)) :
    Calls Try.prog 5 #[.int .i64 n, .agg #[.string ⟨S.toArray⟩, .slice A l.length c], .slice A2 acs.length c2] w fun e w' => e = .returned (.bool true) ∧ Below w.heap.size w w' := by
  have HA := Lib.hid hA
  clear hA
  have hlen := _hlen
  unfold maxLen at hlen
  have HT0 := Lib.hid h
  have K0 := Lib.hid ((boxT w #[.string ⟨S.toArray⟩, .slice A l.length c] 32).and ((grow_txu (show Txu w A S l from h)).alloc _))
  clear h
  by_cases hr : 1 ≤ n ∧ n ≤ 64
  · go_enter Try.func5, Try.ntmps5
    go_upto_region 1 with fail
    generalize w.alloc (.cells #[.string ⟨S.toArray⟩, .slice A l.length c] 32) = w0 at *
    go_upto_region 3 with (go_at_call 8; refine (aliveH_any _).mono ?_; rintro e w1 ⟨rfl, b1⟩)
    have K1 := Lib.hid (K0.out.step b1)
    have B1 := Lib.hid K1.out.now.1.2
    clear b1 K0
    go_upto_region 6 with (go_at_call 9; refine (hiNew_any n hr w1).mono ?_; rintro e w2 ⟨p, b, rfl, hp, hb, h2, b2⟩)
    have K2 := Lib.hid (K1.out.step b2)
    have H2 := Lib.hid (hx_new hr h2)
    have B2 := Lib.hid b2
    clear b2 h2 K1
    obtain ⟨y0, y1⟩ := txt_cells K2.out.now.1.1
    by_cases hs : (5000 : Int) < (S.length : Int)
    · go_wp2_with fail
      go_ret
      exact ⟨rfl, K2.out.now.1.2⟩
    by_cases hl5 : (5000 : Int) < (l.length : Int)
    · go_wp2_with fail
      go_ret
      exact ⟨rfl, K2.out.now.1.2⟩
    by_cases hg : goodT S l = true
    · go_upto_region 8 with (go_at_call 26; refine (refTGood_any A c _ S l _ (Nat.le_refl _) K2.out.now.2).mono ?_; rw [hg]; rintro e w3 ⟨rfl, b3⟩)
      have K3 := Lib.hid (K2.out.step b3)
      have TS := Lib.hid (textK_start (c := c) B1.out (B2.out.trans (b3.mono B2.out.size)) (H2.out.fresh b3) hp hb HT0.out)
      clear y0 y1 b3 K2 H2 B2 hg hp hb HT0
      obtain ⟨y0, y1⟩ := txt_cells K3.out.now.1.1
      have hz3 : (w3.alloc (.cells #[.string ⟨S.toArray⟩, .slice A l.length c] 32)).heap.size = w3.heap.size + 1 := by simp
      have Y4 := Lib.hid (txt_cells (K3.out.alloc (.cells #[.string ⟨S.toArray⟩, .slice A l.length c] 32)).now.1.1)
      obtain ⟨y2, y3⟩ := Y4.out
      go_upto_region 10 with fail
      clear y0 y1 y2 y3 Y4 K3
      generalize hg8 : w3.heap.size = g8 at *
      clear hg8
      generalize (w3.alloc (.cells #[.string ⟨S.toArray⟩, .slice A l.length c] 32)).alloc (.cells #[.string ⟨S.toArray⟩, .slice A l.length c] 32) = w5 at *
      clear hz3
      go_wp2_with fail
      go_loopw [9, 10] (fun v9 i wr => ∃ (k : Nat) (G : List StP) (now last : Int) (L : List TxV) (t : TxV) (x9 : Value), k ≤ acs.length ∧ k ≤ 80 ∧ i = .int .i64 k ∧ x9 = v9 ∧ last ≤ (k : Int) ∧ TextK w1 wr p b g8 n G now last L t x9 ∧ TextP8 G now last L t) (fun _ i _ => acs.length - (intOf i).toNat)
      case atStart => exact ⟨0, _, 0, 0, _, _, _, Nat.zero_le _, by omega, rfl, rfl, by simp, TS.out.1, TS.out.2⟩
      case round =>
        clear TS
        obtain ⟨k, G, now, last, L, t, v9, hk, hk80, rfl, rfl, hlk, hK, hP⟩ := hrel
        have TP := Lib.hid hP
        have TK := Lib.hid hK
        have z1 := B1.out.size
        have zr : w1.heap.size ≤ wr.heap.size := hK.bel.size
        have BR : Hid (Below w.heap.size w wr) := B1.out.trans (hK.bel.mono z1)
        have hnow := hK.hx.inv.nowLow
        have hll1 : (L.length : Int) ≤ last + 1 := by have := hP.len; omega
        have hll2 : last + 1 ≤ (L.length : Int) := by have := hP.len; omega
        obtain ⟨g9, c9, rfl⟩ := hK.form hP.len (by omega)
        clear hK hP
        obtain ⟨tS, tA, tl, tc⟩ := t
        by_cases hin : k < acs.length ∧ k < 80
        · obtain ⟨hlt, h80⟩ := hin
          have hlt' : (k : Int) < (acs.length : Int) := by omega
          have h80' : (k : Int) < 80 := by omega
          obtain ⟨ad, rfl, hd⟩ := actE_grow row hlt
          have HT := Lib.hid (HA.out acs[k] (List.getElem_mem hlt))
          generalize acs[k] = r at *
          obtain ⟨kind, ⟨a, S1, A1, l1, c1, X1, Bx, m1, d1⟩, fo⟩ := r
          have hkind := HT.out.hk
          dsimp only at hkind
          obtain ⟨d0', d1', d2, d3, d4, d5', d6⟩ := hd _ BR.out
          dsimp only at d0' d1' d2 d3 d4 d5' d6
          clear hd
          have HL4 : Hid ((S1.length ≤ maxLen ∧ l1.length ≤ maxLen) ∧ X1.length ≤ maxLen ∧ m1.length ≤ maxLen) := ⟨⟨HT.out.old.hS, HT.out.old.hl⟩, HT.out.new.hS, HT.out.new.hl⟩
          go_upto_region 14 with fail
          have K3 := Lib.hid ((boxT wr #[.int .u8 kind, .int .i64 a, .string ⟨S1.toArray⟩, .slice A1 l1.length c1, .string ⟨X1.toArray⟩, .slice Bx m1.length d1, .bool fo] 36).and (TK.out.grow.alloc _))
          have zg : wr.heap.size < (wr.alloc (.cells #[.int .u8 kind, .int .i64 a, .string ⟨S1.toArray⟩, .slice A1 l1.length c1, .string ⟨X1.toArray⟩, .slice Bx m1.length d1, .bool fo] 36)).heap.size := by simp
          have hpw : p < wr.heap.size ∧ b < wr.heap.size := ⟨TK.out.hx.h.blk.lt, TK.out.hx.h.map.lt⟩
          have h9w : g9 < wr.heap.size := (TK.out.own.lt g9 rfl).2
          clear d0' d1' d2 d3 d4 d5' d6 TK
          generalize wr.alloc (.cells #[.int .u8 kind, .int .i64 a, .string ⟨S1.toArray⟩, .slice A1 l1.length c1, .string ⟨X1.toArray⟩, .slice Bx m1.length d1, .bool fo] 36) = w3 at *
          obtain ⟨s0, s1, s2, s3, s4, s5, s6⟩ := st_cells K3.out.now.1.1
          by_cases hfit : (S1.length ≤ 5000 ∧ l1.length ≤ 5000) ∧ (X1.length ≤ 5000 ∧ m1.length ≤ 5000)
          · have HF := Lib.hid hfit
            clear hfit
            go_upto_region 15 with (go_at_call 11; refine (lawEFits_any A1 Bx c1 d1 a S1 X1 l1 m1 _ HL4.out.1.1 HL4.out.1.2 HL4.out.2.1 HL4.out.2.2).mono ?_; rw [decide_eq_true HF.out]; rintro e w4 ⟨rfl, b4⟩)
            have K4 := Lib.hid (K3.out.step b4)
            have TK0 : Hid (InvS G now last n) := K4.out.now.2.hx.inv
            have z4 := b4.size
            clear s0 s1 s2 s3 s4 s5 s6 b4 K3
            obtain ⟨s0, s1, s2, s3, s4, s5, s6⟩ := st_cells K4.out.now.1.1
            have BW := Lib.hid (B1.out.trans (K4.out.now.2.bel.mono z1))
            have TX := Lib.hid (And.intro (show Txu w4 A1 S1 l1 from (Txt.below HT.out.old BW.out).more BW.out.size) (show Txu w4 Bx X1 m1 from (Txt.below HT.out.new BW.out).more BW.out.size))
            by_cases hk2 : kind % 4 < 2
            · obtain ⟨r, hrr⟩ : ∃ r, applyE tS tl a S1 l1 X1 m1 = r := ⟨_, rfl⟩
              have HAP := Lib.hid hrr
              have OKV : Hid (OkT r) := by show OkT _; rw [← hrr]; exact okT_apply K4.out.now.2.tt.hf TX.out.2.hf a S1 l1
              clear hrr
              obtain ⟨⟨V, q⟩, N⟩ := r
              obtain ⟨z0, z1'⟩ := txt_cells K4.out.now.2.t8
              go_upto_region 17 with (go_at_call 27; refine (refEApply_any tA A1 Bx tc c1 d1 tS tl a S1 l1 X1 m1 _ K4.out.now.2.tt.txu TX.out.1 TX.out.2).mono ?_; rw [HAP.out]; rintro e w5 ⟨A5, c5, rfl, own5, b5⟩; dsimp only at own5 ⊢)
              have HX6 := Lib.hid (txo_new (V := VT g8 (.slice (some ⟨g9, 0, none⟩) L.length c9)) K4.out.now.2.ltV (OKV.out.txt (Row.of_own own5)) own5)
              have GX6 : Grow w5 (fun w' => TxO w' (VT g8 (.slice (some ⟨g9, 0, none⟩) L.length c9)) A5 V q) := fun w' hb => HX6.out.fresh hb
              have K6 := Lib.hid ((boxT w5 #[.string ⟨V.toArray⟩, .slice A5 q.length c5] 32).and (((K4.out.step b5).and (GX6.and (((grow_txu (show Txu w4 _ _ _ from TX.out.1)).and (grow_txu (show Txu w4 _ _ _ from TX.out.2))).step b5))).alloc _))
              have z5 := b5.size
              have zy : w5.heap.size < (w5.alloc (.cells #[.string ⟨V.toArray⟩, .slice A5 q.length c5] 32)).heap.size := by simp
              clear own5 b5 HX6 GX6 K4 z0 z1' s0 s1 s2 s3 s4 s5 s6 TX BW
              generalize w5.alloc (.cells #[.string ⟨V.toArray⟩, .slice A5 q.length c5] 32) = w6 at *
              obtain ⟨s0, s1, s2, s3, s4, s5, s6⟩ := st_cells K6.out.now.2.1.1.1
              by_cases hN : N = 0
              · subst hN
                have hge : goodE a S1 l1 X1 m1 = true := (applyE_made (by rw [HAP.out])).1
                have HADD := Lib.hid (K6.out.now.2.1.2.hx.add (by omega) K6.out.now.2.2.2.1 K6.out.now.2.2.2.2 hge HF.out.1.2 HF.out.2.2 (c1 := c1) (d := d1))
                go_upto_region 18 with fail
                go_upto_region 19 with (go_at_call 17; refine HADD.out.mono ?_; rintro e w7 ⟨A7, c7, B7, d7, G', rfl, h7, t7, a7, r7, r8⟩)
                have AW : Hid (Away w7 (VT g8 (.slice (some ⟨g9, 0, none⟩) L.length c9)) G') := away_add a7 fun s hs => by
                  rcases List.mem_append.1 hs with hs | hs
                  · exact ⟨K6.out.now.2.1.2.beside t7 ⟨(K6.out.now.2.1.2.hx.h.eds s hs).1.hS, (K6.out.now.2.1.2.hx.h.eds s hs).1.hf, (K6.out.now.2.1.2.hx.h.eds s hs).1.hl, (K6.out.now.2.1.2.aw s hs).1⟩ |>.row, K6.out.now.2.1.2.beside t7 ⟨(K6.out.now.2.1.2.hx.h.eds s hs).2.hS, (K6.out.now.2.1.2.hx.h.eds s hs).2.hf, (K6.out.now.2.1.2.hx.h.eds s hs).2.hl, (K6.out.now.2.1.2.aw s hs).2⟩ |>.row⟩
                  · rw [List.mem_singleton.1 hs]
                    exact ⟨RowO.of_rowG r7 (fun k hk hq => by have := K6.out.now.2.1.2.ltV k hq; omega), RowO.of_rowG r8 (fun k hk hq => by have := K6.out.now.2.1.2.ltV k hq; omega)⟩
                have F7 := Lib.hid (K6.out.now.2.1.2.call h7 t7 AW.out)
                have X7 := Lib.hid (K6.out.now.2.1.2.beside t7 K6.out.now.2.2.1)
                have G7 := Lib.hid (K6.out.now.1.1.tch t7 (fun hp => by rcases hp with e | e <;> omega))
                have P7 := Lib.hid (TP.out.addT (x := ⟨V, A5, q, c5⟩) K6.out.now.2.1.2.hx.inv a7 HAP.out)
                clear h7 t7 a7 r7 r8 HADD s0 s1 s2 s3 s4 s5 s6 K6 AW
                have hq1 : (last + 1 != (L.length : Int)) = false := by simp; omega
                have hL80 : L.length ≤ 81 := by omega
                have z7 := F7.out.bel.size
                obtain ⟨y0, y1⟩ := txt_cells G7.out
                go_upto_region 22 with (at_builtin; refine wpList_pushT rfl _ _ _ rfl w1.heap.size 32 _ 2 40 elt_txtH 32 _ _ _ rfl F7.out.own [.string ⟨V.toArray⟩, .slice A5 q.length c5] _ rfl rfl rfl (by intro u hu; simp at hu; rcases hu with rfl | rfl <;> rfl) (by unfold maxLen; omega) (by omega) z7 ?_; intro v10 w10 own10 ch10 at10)
                have F10 := Lib.hid (F7.out.app (x := ⟨V, A5, q, c5⟩) X7.out own10 ch10 at10)
                have G10 := Lib.hid (G7.out.tch ch10 (fun h => by injection h with h; have h' : g9 = w5.heap.size := h; omega))
                clear own10 ch10 at10 F7 X7 G7 y0 y1
                obtain ⟨y0, y1⟩ := txt_cells G10.out
                obtain ⟨u0, u1, u2, u3⟩ := txt_var F10.out.1.t8
                go_wp2_with fail
                go_roundw
                case rel => exact ⟨k + 1, G', last + 1, last + 1, L ++ [⟨V, A5, q, c5⟩], ⟨V, A5, q, c5⟩, _, by omega, by omega, by go_num, rfl, by push_cast; omega, F10.out.1.setT (x := ⟨V, A5, q, c5⟩) F10.out.2, P7.out⟩
                case measure => simp [intOf]; omega
              · have hN' : ((N : Int) != 0) = true := by simpa using hN
                go_wp2_with fail
                go_roundw
                case rel => exact ⟨k + 1, G, now, last, L, ⟨tS, tA, tl, tc⟩, _, by omega, by omega, by go_num, rfl, by push_cast; omega, K6.out.now.2.1.2, TP.out⟩
                case measure => simp [intOf]; omega
            · obtain ⟨s, hs, hsn, hu⟩ := K4.out.now.2.hx.undo
              obtain ⟨sn, sup, ⟨sa, sS, sA, sl, sc, sX, sB, sm, sd⟩⟩ := s
              dsimp only at hsn hu
              rw [hsn] at hs
              have F4 := Lib.hid K4.out.now.2
              have HS := Lib.hid hs
              have ED := Lib.hid (F4.out.hx.h.eds _ hs)
              have z14 : w1.heap.size ≤ w4.heap.size := F4.out.bel.size
              clear hs
              rcases hu with ⟨hu0, hc⟩ | ⟨hu0, hlu, hi, hc⟩
              · have HU := Lib.hid hc
                clear hc
                go_upto_region 24 with (go_at_call 12; refine HU.out.mono ?_; rintro e w5 ⟨rfl, b5⟩)
                have K5 := Lib.hid ((boxT w5 #[.int .i64 0, .string ⟨#[]⟩, .slice none 0 0, .string ⟨#[]⟩, .slice none 0 0] 34).and ((K4.out.step b5).alloc _))
                have zg5 : w4.heap.size ≤ w5.heap.size := b5.size
                have zh6 : w5.heap.size < (w5.alloc (.cells #[.int .i64 0, .string ⟨#[]⟩, .slice none 0 0, .string ⟨#[]⟩, .slice none 0 0] 34)).heap.size := by simp
                have B6 := Lib.hid (b5.alloc zg5 (.cells #[.int .i64 0, .string ⟨#[]⟩, .slice none 0 0, .string ⟨#[]⟩, .slice none 0 0] 34))
                clear b5 K4 HU s0 s1 s2 s3 s4 s5 s6
                generalize hg6 : w5.heap.size = g6 at *
                generalize w5.alloc (.cells #[.int .i64 0, .string ⟨#[]⟩, .slice none 0 0, .string ⟨#[]⟩, .slice none 0 0] 34) = w6 at *
                obtain ⟨s0, s1, s2, s3, s4, s5, s6⟩ := st_cells K5.out.now.2.1.1
                by_cases k3 : (kind % 4 == 3) = true
                · rcases K5.out.now.2.2.hx.redo with ⟨hno, hcr⟩ | ⟨x, hx, hxu, hxm, hxi, hcr⟩
                  · have HR := Lib.hid hcr
                    clear hcr hno
                    go_upto_region 30 with (go_at_call 15; refine HR.out.mono ?_; rintro e w7 ⟨rfl, b7⟩; have K7 := Lib.hid (K5.out.step b7); have BZ := Lib.hid (below_five (B6.out.trans (b7.mono B6.out.size)) zg5 (.int .i64 0) (.string ⟨#[]⟩) (.slice none 0 0) (.string ⟨#[]⟩) (.slice none 0 0)); clear b7; obtain ⟨⟨u0, u1, u2, u3, u4⟩, u5, u6, u7, u8, u9⟩ := ed_var K7.out.now.1.1)
                    go_wp2_with fail
                    go_roundw
                    case rel => exact ⟨k + 1, G, now, last, L, ⟨tS, tA, tl, tc⟩, _, by omega, by omega, by go_num, rfl, by push_cast; omega, F4.out.fresh BZ.out, TP.out⟩
                    case measure => simp [intOf]; omega
                  · have hlow := K5.out.now.2.2.hx.inv.hlow x hx
                    have EX := Lib.hid (F4.out.hx.h.eds x hx)
                    have YNG := Lib.hid (young_redo K5.out.now.2.2.hx.inv hx hxu hxm TP.out.young)
                    have HAPP := Lib.hid (TP.out.redoT hx hxu hnow.1)
                    have HXI := Lib.hid hxi
                    have HR := Lib.hid hcr
                    clear hcr hxm hxi hxu hx
                    obtain ⟨xn, xup, ⟨a5, S5, xA, l5, xc, X5, xB, m5, xd⟩⟩ := x
                    dsimp only at hlow
                    obtain ⟨j, rfl⟩ : ∃ j : Nat, xn = j := ⟨xn.toNat, by omega⟩
                    have hjL : j < L.length := by omega
                    have hpg : p ≠ g6 := by omega
                    go_upto_region 30 with (go_at_call 15; refine HR.out.mono ?_; rintro e w7 ⟨A5, c5, B5, d5, rfl, h7, o7, o8, t7⟩; have G7 := Lib.hid (K5.out.now.1.1.tch t7 (fun e => hpg e.symm)); have O7 := Lib.hid (And.intro o7 o8); have T7 := Lib.hid (((Tch.fresh (P := fun k => k = p) B6.out).trans t7).five zg5 (.int .i64 a5) (.string ⟨S5.toArray⟩) (.slice A5 l5.length c5) (.string ⟨X5.toArray⟩) (.slice B5 m5.length d5)); have P7 := Lib.hid (five_far h7.blk hpg (.int .i64 a5) (.string ⟨S5.toArray⟩) (.slice A5 l5.length c5) (.string ⟨X5.toArray⟩) (.slice B5 m5.length d5)); clear h7 o7 o8 t7; obtain ⟨⟨u0, u1, u2, u3, u4⟩, u5, u6, u7, u8, u9⟩ := ed_var G7.out)
                    have F8 := Lib.hid (F4.out.moved T7.out P7.out HXI.out)
                    have KT := Lib.hid (F8.out.grow.and ((grow_blk (blk_five G7.out (.int .i64 a5) (.string ⟨S5.toArray⟩) (.slice A5 l5.length c5) (.string ⟨X5.toArray⟩) (.slice B5 m5.length d5))).and ((grow_txu (txu_own (O7.out.1.five zh6 (.int .i64 a5) (.string ⟨S5.toArray⟩) (.slice A5 l5.length c5) (.string ⟨X5.toArray⟩) (.slice B5 m5.length d5)) EX.out.1)).and (grow_txu (txu_own (O7.out.2.five zh6 (.int .i64 a5) (.string ⟨S5.toArray⟩) (.slice A5 l5.length c5) (.string ⟨X5.toArray⟩) (.slice B5 m5.length d5)) EX.out.2)))))
                    clear u0 u1 u2 u3 u4 u5 u6 u7 u8 u9 G7 O7 T7 P7 F8 EX K5 F4 s0 s1 s2 s3 s4 s5 s6 HR HXI
                    generalize ((((w7.setCell ⟨g6, 0, none⟩ (.int .i64 a5)).setCell ⟨g6, 1, none⟩ (.string ⟨S5.toArray⟩)).setCell ⟨g6, 2, none⟩ (.slice A5 l5.length c5)).setCell ⟨g6, 3, none⟩ (.string ⟨X5.toArray⟩)).setCell ⟨g6, 4, none⟩ (.slice B5 m5.length d5) = wk at *
                    obtain ⟨V, q, hvq⟩ : ∃ V q, textAt L (j : Int) = (V, q) := ⟨_, _, rfl⟩
                    have HVQ := Lib.hid hvq
                    have HAP : Hid (applyE tS tl a5 S5 l5 X5 m5 = ((V, q), 0)) := by show _ = _; rw [HAPP.out, hvq]
                    clear hvq HAPP
                    obtain ⟨Aq, cq, hat⟩ := KT.out.now.1.at_ hjL HVQ.out
                    have AT := Lib.hid hat
                    clear hat
                    obtain ⟨y0, y1, y2, y3, y4⟩ := ed_cells KT.out.now.2.1
                    obtain ⟨z0, z1'⟩ := txt_cells KT.out.now.1.t8
                    go_upto_region 31 with fail
                    have OKV : Hid (OkT ((V, q), 0)) := by show OkT _; rw [← HAP.out]; exact okT_apply KT.out.now.1.tt.hf KT.out.now.2.2.2.hf a5 S5 l5
                    have zk := KT.out.now.1.bel.size
                    go_upto_region 32 with (go_at_call 27; refine (refEApply_any tA A5 B5 tc c5 d5 tS tl a5 S5 l5 X5 m5 _ KT.out.now.1.tt.txu KT.out.now.2.2.1 KT.out.now.2.2.2).mono ?_; rw [HAP.out]; rintro e wy ⟨A6, c6, rfl, own6, b6⟩; dsimp only at own6 ⊢)
                    have HX6 := Lib.hid (txo_new (V := VT g8 (.slice (some ⟨g9, 0, none⟩) L.length c9)) KT.out.now.1.ltV (OKV.out.txt (Row.of_own own6)) own6)
                    have GX6 : Grow wy (fun w' => TxO w' (VT g8 (.slice (some ⟨g9, 0, none⟩) L.length c9)) A6 V q) := fun w' hb => HX6.out.fresh hb
                    have K6 := Lib.hid ((boxT wy #[.string ⟨V.toArray⟩, .slice A6 q.length c6] 32).and (((KT.out.step b6).and (((show Grow _ _ from AT.out).step b6).and GX6)).alloc _))
                    clear own6 b6 HX6 GX6 KT AT y0 y1 y2 y3 y4 z0 z1'
                    have zy : wy.heap.size < (wy.alloc (.cells #[.string ⟨V.toArray⟩, .slice A6 q.length c6] 32)).heap.size := by simp
                    generalize wy.alloc (.cells #[.string ⟨V.toArray⟩, .slice A6 q.length c6] 32) = wz at *
                    have hb0 : Below wz.heap.size wz wz := Below.refl _ _
                    have S0 := Lib.hid (fun w' (hb : Below wz.heap.size wz w') => And.intro (txt_cells (K6.out w' hb).1.1) (K6.out w' hb).2.2.1.1)
                    have NW : Hid (∀ w', Below wz.heap.size wz w' → Calls Try.prog 19 #[.pointer (some ⟨p, 0, none⟩)] w' fun e w'' => e = .returned (.int .i64 j) ∧ w' = w'') := fun w' hb => (hiNow_any (K6.out w' hb).2.1.1.hx.h).mono fun _ _ h => ⟨h.1, h.2.symm⟩
                    have hj0 : (0 : Int) ≤ (j : Int) := by omega
                    have hjl' : (j : Int) < (L.length : Int) := by omega
                    have hd1 : decide ((j : Int) < 0) = false := decide_eq_false (by omega)
                    have hd2 : decide ((L.length : Int) ≤ (j : Int)) = false := decide_eq_false (by omega)
                    have hd3 : decide (L.length ≤ j) = false := decide_eq_false (by omega)
                    have hd4 : ¬ L.length ≤ j := by omega
                    go_region_held3 (fun w' => (w'.cell? ⟨wy.heap.size, 0, none⟩ = some (.string ⟨V.toArray⟩) ∧ w'.cell? ⟨wy.heap.size, 1, none⟩ = some (.slice A6 q.length c6)) ∧ w'.cell? ⟨g9, j * 2, none⟩ = some (.string ⟨V.toArray⟩) ∧ w'.cell? ⟨g9, j * 2 + 1, none⟩ = some (.slice Aq q.length cq))
                      (first
                        | with_reducible exact S0.out _ hbx
                        | with_reducible exact S0.out _ (belowE_dr hb0)
                        | with_reducible exact S0.out _ hb0)
                      (first
                        | (go_at_call 19; refine (NW.out _ ?_).mono ?_; (first | with_reducible assumption | with_reducible exact belowE_dr hb0); rintro e w' ⟨rfl, rfl⟩)
                        | (go_at_call 28; refine (refTSame_any A6 Aq c6 cq _ _ V V q q _ (Nat.le_refl _) (Nat.le_refl _) (K6.out _ (belowE_dr hb0)).2.2.2.txu (K6.out _ (belowE_dr hb0)).2.2.1.2).mono ?_; rw [decide_eq_true ⟨rfl, rfl⟩]; rintro e wq ⟨rfl, bq⟩; have hbx := (belowE_dr hb0).trans (bq.mono (belowE_dr hb0).size)))
                    have KF := Lib.hid (K6.out _ hbx)
                    obtain ⟨y0, y1⟩ := txt_cells KF.out.1.1
                    obtain ⟨u0, u1, u2, u3⟩ := txt_var KF.out.2.1.1.t8
                    go_wp2_with fail
                    go_roundw
                    case rel => exact ⟨k + 1, G, j, last, L, ⟨V, A6, q, c6⟩, _, by omega, by omega, by go_num, rfl, by push_cast; omega, KF.out.2.1.1.setT (x := ⟨V, A6, q, c6⟩) KF.out.2.2.2, ⟨TP.out.len, HVQ.out, TP.out.edge, YNG.out⟩⟩
                    case measure => simp [intOf]; omega
                · replace k3 : (kind % 4 == 3) = false := by simpa using k3
                  go_wp2_with fail
                  go_roundw
                  case rel => exact ⟨k + 1, G, now, last, L, ⟨tS, tA, tl, tc⟩, _, by omega, by omega, by go_num, rfl, by push_cast; omega, K5.out.now.2.2, TP.out⟩
                  case measure => simp [intOf]; omega
              · have hlow := hi.nowLow
                have HU := Lib.hid hc
                have HI := Lib.hid hi
                have YNG := Lib.hid (young_undo HS.out hu0 TP.out.young)
                have HAPP := Lib.hid (TP.out.undoT HS.out rfl hu0)
                dsimp only at HAPP
                clear hc hi
                go_upto_region 24 with (go_at_call 12; refine HU.out.mono ?_; rintro e w5 ⟨A5, c5, B5, d5, rfl, h5, o5, o6, t5⟩)
                have zg5 : w4.heap.size ≤ w5.heap.size := t5.size
                have zh6 : w5.heap.size < (w5.alloc (.cells #[.int .i64 sa, .string ⟨sX.toArray⟩, .slice A5 sm.length c5, .string ⟨sS.toArray⟩, .slice B5 sl.length d5] 34)).heap.size := by simp
                have T6 := Lib.hid (t5.trans (Tch.fresh ((Below.refl w5.heap.size w5).alloc (Nat.le_refl _) (.cells #[.int .i64 sa, .string ⟨sX.toArray⟩, .slice A5 sm.length c5, .string ⟨sS.toArray⟩, .slice B5 sl.length d5] 34))))
                have F6 := Lib.hid (F4.out.moved T6.out (h5.blk.alloc (.cells #[.int .i64 sa, .string ⟨sX.toArray⟩, .slice A5 sm.length c5, .string ⟨sS.toArray⟩, .slice B5 sl.length d5] 34)) HI.out)
                have G6 := Lib.hid ((K4.out.now.1.1.tch t5 (fun e => by omega)).alloc (.cells #[.int .i64 sa, .string ⟨sX.toArray⟩, .slice A5 sm.length c5, .string ⟨sS.toArray⟩, .slice B5 sl.length d5] 34))
                have KT := Lib.hid (F6.out.grow.and ((blk_box (T := 34) (cs := #[.int .i64 sa, .string ⟨sX.toArray⟩, .slice A5 sm.length c5, .string ⟨sS.toArray⟩, .slice B5 sl.length d5]) w5).and (((grow_txu (txu_own o5 ED.out.2)).and (grow_txu (txu_own o6 ED.out.1))).alloc _)))
                clear h5 o5 o6 t5 K4 HU s0 s1 s2 s3 s4 s5 s6
                generalize hg6 : w5.heap.size = g6 at *
                generalize w5.alloc (.cells #[.int .i64 sa, .string ⟨sX.toArray⟩, .slice A5 sm.length c5, .string ⟨sS.toArray⟩, .slice B5 sl.length d5] 34) = w6 at *
                obtain ⟨s0, s1, s2, s3, s4, s5, s6⟩ := st_cells G6.out
                have hpg : p ≠ g6 := by omega
                by_cases k3 : (kind % 4 == 3) = true
                · rcases F6.out.hx.redo with ⟨hno, _⟩ | ⟨x, hx, hxu, hxm, hxi, hcr⟩
                  · exact absurd rfl (hno _ HS.out)
                  · obtain rfl := young_back (s := ⟨now, sup, ⟨sa, sS, sA, sl, sc, sX, sB, sm, sd⟩⟩) (TK0.out) HS.out hu0 hx hxu hxm TP.out.young
                    have HR := Lib.hid hcr
                    have HXI := Lib.hid hxi
                    clear hcr hxi hxm hx
                    go_upto_region 27 with (go_at_call 15; refine HR.out.mono ?_; rintro e w7 ⟨A7, c7, B7, d7, rfl, h7, _, _, t7⟩; have G7 := Lib.hid (KT.out.now.2.1.tch t7 (fun e => hpg e.symm)); have T7 := Lib.hid ((T6.out.trans t7).five zg5 (.int .i64 sa) (.string ⟨sS.toArray⟩) (.slice A7 sl.length c7) (.string ⟨sX.toArray⟩) (.slice B7 sm.length d7)); have P7 := Lib.hid (five_far h7.blk hpg (.int .i64 sa) (.string ⟨sS.toArray⟩) (.slice A7 sl.length c7) (.string ⟨sX.toArray⟩) (.slice B7 sm.length d7)); clear h7 t7; obtain ⟨⟨u0, u1, u2, u3, u4⟩, u5, u6, u7, u8, u9⟩ := ed_var G7.out)
                    have F8 := Lib.hid (F4.out.moved T7.out P7.out HXI.out)
                    go_wp2_with fail
                    go_roundw
                    case rel => exact ⟨k + 1, G, now, last, L, ⟨tS, tA, tl, tc⟩, _, by omega, by omega, by go_num, rfl, by push_cast; omega, F8.out, TP.out⟩
                    case measure => simp [intOf]; omega
                · replace k3 : (kind % 4 == 3) = false := by simpa using k3
                  obtain ⟨j, rfl⟩ : ∃ j : Nat, sup = j := ⟨sup.toNat, by omega⟩
                  have hjL : j < L.length := by omega
                  go_upto_region 30 with fail
                  obtain ⟨V, q, hvq⟩ : ∃ V q, textAt L (j : Int) = (V, q) := ⟨_, _, rfl⟩
                  have HVQ := Lib.hid hvq
                  have HAP : Hid (applyE tS tl sa sX sm sS sl = ((V, q), 0)) := by show _ = _; rw [HAPP.out, hvq]
                  clear hvq HAPP
                  obtain ⟨Aq, cq, hat⟩ := KT.out.now.1.at_ hjL HVQ.out
                  have AT := Lib.hid hat
                  clear hat
                  obtain ⟨y0, y1, y2, y3, y4⟩ := ed_cells KT.out.now.2.1
                  obtain ⟨z0, z1'⟩ := txt_cells KT.out.now.1.t8
                  go_upto_region 31 with fail
                  have OKV : Hid (OkT ((V, q), 0)) := by show OkT _; rw [← HAP.out]; exact okT_apply KT.out.now.1.tt.hf KT.out.now.2.2.2.hf sa sX sm
                  have zk := KT.out.now.1.bel.size
                  go_upto_region 32 with (go_at_call 27; refine (refEApply_any tA A5 B5 tc c5 d5 tS tl sa sX sm sS sl _ KT.out.now.1.tt.txu KT.out.now.2.2.1 KT.out.now.2.2.2).mono ?_; rw [HAP.out]; rintro e wy ⟨A6, c6, rfl, own6, b6⟩; dsimp only at own6 ⊢)
                  have HX6 := Lib.hid (txo_new (V := VT g8 (.slice (some ⟨g9, 0, none⟩) L.length c9)) KT.out.now.1.ltV (OKV.out.txt (Row.of_own own6)) own6)
                  have GX6 : Grow wy (fun w' => TxO w' (VT g8 (.slice (some ⟨g9, 0, none⟩) L.length c9)) A6 V q) := fun w' hb => HX6.out.fresh hb
                  have K6 := Lib.hid ((boxT wy #[.string ⟨V.toArray⟩, .slice A6 q.length c6] 32).and (((KT.out.step b6).and (((show Grow _ _ from AT.out).step b6).and GX6)).alloc _))
                  clear own6 b6 HX6 GX6 KT AT y0 y1 y2 y3 y4 z0 z1'
                  have zy : wy.heap.size < (wy.alloc (.cells #[.string ⟨V.toArray⟩, .slice A6 q.length c6] 32)).heap.size := by simp
                  generalize wy.alloc (.cells #[.string ⟨V.toArray⟩, .slice A6 q.length c6] 32) = wz at *
                  have hb0 : Below wz.heap.size wz wz := Below.refl _ _
                  have S0 := Lib.hid (fun w' (hb : Below wz.heap.size wz w') => And.intro (txt_cells (K6.out w' hb).1.1) (K6.out w' hb).2.2.1.1)
                  have NW : Hid (∀ w', Below wz.heap.size wz w' → Calls Try.prog 19 #[.pointer (some ⟨p, 0, none⟩)] w' fun e w'' => e = .returned (.int .i64 j) ∧ w' = w'') := fun w' hb => (hiNow_any (K6.out w' hb).2.1.1.hx.h).mono fun _ _ h => ⟨h.1, h.2.symm⟩
                  have hj0 : (0 : Int) ≤ (j : Int) := by omega
                  have hjl' : (j : Int) < (L.length : Int) := by omega
                  have hd1 : decide ((j : Int) < 0) = false := decide_eq_false (by omega)
                  have hd2 : decide ((L.length : Int) ≤ (j : Int)) = false := decide_eq_false (by omega)
                  have hd3 : decide (L.length ≤ j) = false := decide_eq_false (by omega)
                  have hd4 : ¬ L.length ≤ j := by omega
                  go_region_held3 (fun w' => (w'.cell? ⟨wy.heap.size, 0, none⟩ = some (.string ⟨V.toArray⟩) ∧ w'.cell? ⟨wy.heap.size, 1, none⟩ = some (.slice A6 q.length c6)) ∧ w'.cell? ⟨g9, j * 2, none⟩ = some (.string ⟨V.toArray⟩) ∧ w'.cell? ⟨g9, j * 2 + 1, none⟩ = some (.slice Aq q.length cq))
                    (first
                      | with_reducible exact S0.out _ hbx
                      | with_reducible exact S0.out _ (belowE_dr hb0)
                      | with_reducible exact S0.out _ hb0)
                    (first
                      | (go_at_call 19; refine (NW.out _ ?_).mono ?_; (first | with_reducible assumption | with_reducible exact belowE_dr hb0); rintro e w' ⟨rfl, rfl⟩)
                      | (go_at_call 28; refine (refTSame_any A6 Aq c6 cq _ _ V V q q _ (Nat.le_refl _) (Nat.le_refl _) (K6.out _ (belowE_dr hb0)).2.2.2.txu (K6.out _ (belowE_dr hb0)).2.2.1.2).mono ?_; rw [decide_eq_true ⟨rfl, rfl⟩]; rintro e wq ⟨rfl, bq⟩; have hbx := (belowE_dr hb0).trans (bq.mono (belowE_dr hb0).size)))
                  have KF := Lib.hid (K6.out _ hbx)
                  obtain ⟨y0, y1⟩ := txt_cells KF.out.1.1
                  obtain ⟨u0, u1, u2, u3⟩ := txt_var KF.out.2.1.1.t8
                  go_wp2_with fail
                  go_roundw
                  case rel => exact ⟨k + 1, G, j, last, L, ⟨V, A6, q, c6⟩, _, by omega, by omega, by go_num, rfl, by push_cast; omega, KF.out.2.1.1.setT (x := ⟨V, A6, q, c6⟩) KF.out.2.2.2, ⟨TP.out.len, HVQ.out, TP.out.edge, YNG.out⟩⟩
                  case measure => simp [intOf]; omega
          · go_wp2_with (go_at_call 11; refine (lawEFits_any A1 Bx c1 d1 a S1 X1 l1 m1 _ HL4.out.1.1 HL4.out.1.2 HL4.out.2.1 HL4.out.2.2).mono ?_; rw [decide_eq_false hfit]; rintro e w4 ⟨rfl, b4⟩)
            go_roundw
            case rel => exact ⟨k + 1, G, now, last, L, ⟨tS, tA, tl, tc⟩, _, by omega, by omega, by go_num, rfl, by push_cast; omega, (K3.out.step b4).now.2, TP.out⟩
            case measure => simp [intOf]; omega
        · have hout : (¬ (k : Int) < (acs.length : Int)) ∨ ((k : Int) < (acs.length : Int) ∧ ¬ (k : Int) < 80) := by omega
          rcases hout with hx | ⟨hx, hy⟩
          all_goals
            go_wp2_with fail
            go_ret
            exact ⟨rfl, BR.out⟩
    · rw [Bool.not_eq_true] at hg
      go_wp2_with (go_at_call 26; refine (refTGood_any A c _ S l _ (Nat.le_refl _) K2.out.now.2).mono ?_; rw [hg]; rintro e w3 ⟨rfl, b3⟩)
      go_ret
      exact ⟨rfl, (K2.out.step b3).now.1.2⟩
  · by_cases h1 : n < 1
    · go_enter Try.func5, Try.ntmps5
      go_wp2_with (first
        | (go_at_call 8; refine (aliveH_any _).mono ?_; rintro e w1 ⟨rfl, b1⟩)
        | (go_at_call 9; refine (hiNew_nil n hr w1).mono ?_; rintro e w2 ⟨rfl, rfl⟩))
      go_ret
      exact ⟨rfl, (K0.out.step b1).now.1.2⟩
    · have h2 : 64 < n := by omega
      go_enter Try.func5, Try.ntmps5
      go_wp2_with (first
        | (go_at_call 8; refine (aliveH_any _).mono ?_; rintro e w1 ⟨rfl, b1⟩)
        | (go_at_call 9; refine (hiNew_nil n hr w1).mono ?_; rintro e w2 ⟨rfl, rfl⟩))
      go_ret
      exact ⟨rfl, (K0.out.step b1).now.1.2⟩
end Go.Proofs.Ytfeaffabminpfaa

/-
  A store answers every call as the document says: layer 5.
-/
import Derived.Test.YtacpfkkbjibmgaaPiePlay
import Derived.Test.YtacpfkkbjibmgaaPieRefPut
import Derived.Test.YtacpfkkbjibmgaaPieApart
import Derived.Deep.RegionHeld3
import Derived.Deep.DrawnRows
namespace Go.Proofs.Ytacpfkkbjibmgaa
open Go.RowKit
attribute [local go_sem ↓] Go.wp_at_zero Go.wp_at_succ

/-- the landed store and the document's, side by side -/
def Beside (w1 wr : World) (g g6 N : Nat) : Prop := ∃ O S b A c, Sto wr O g N S b ∧ (∀ k, O k → w1.heap.size ≤ k) ∧ Below w1.heap.size w1 wr ∧ Blk wr g6 30 #[.string ⟨S.toArray⟩, .slice A (pack b).length c, .int .i64 (N : Nat)] ∧ ¬ O g6 ∧ RowF wr (fun k => O k ∨ k = g6) A (flatR (pack b))
theorem Beside.fresh {w1 wr w' : World} {g g6 N : Nat} (h : Beside w1 wr g g6 N) (hb : Below wr.heap.size wr w') : Beside w1 w' g g6 N := by
  obtain ⟨O, S, b, A, c, h1, h2, h3, h4, h5, h6⟩ := h
  exact ⟨O, S, b, A, c, h1.fresh hb, h2, h3.trans (hb.mono h3.size), h4.below hb h4.lt, h5, h6.chg (Chg.of_fresh hb)⟩
theorem cut_same {S : List UInt8} {b : List Nat} {f t : Int} (hg : goodT S (pack b) = true) : cutOf S (pack b) f t = cutS S b f t := by
  unfold cutOf cutS
  by_cases h : 0 ≤ f ∧ f ≤ t ∧ t ≤ (S.length : Int)
  · rw [if_pos ((within_packed hg).2 h), if_pos h, bytesOf_pack]
    have e : (t - f).toNat = t.toNat - f.toNat := by omega
    unfold cut
    rw [e]
  · rw [if_neg (fun h' => h ((within_packed hg).1 h')), if_neg h]
theorem kept_cells {w : World} {g T : Nat} {a b c : Value} (h : Blk w g T #[a, b, c]) : w.cell? ⟨g, 0, none⟩ = some a ∧ w.cell? ⟨g, 1, none⟩ = some b ∧ w.cell? ⟨g, 2, none⟩ = some c ∧ w.frozen? ⟨g, 0, none⟩ = false ∧ w.frozen? ⟨g, 1, none⟩ = false ∧ w.frozen? ⟨g, 2, none⟩ = false := three_vals h
theorem act_five {w : World} {g : Nat} {T : TypeId} {a b c d e f : Value} (h : Blk w g T #[a, b, c, d, e, f]) : w.cell? ⟨g, 4, none⟩ = some e := by have := h.cell 4; simpa using this

set_option maxRecDepth 100000 in
set_option maxHeartbeats 40000000 in
theorem pieceActs_walk (w : World) (n : Int) (hn : -9223372036854775808 ≤ n ∧ n ≤ 9223372036854775807) (A : Option Addr) (c : Nat) (acs : List ActP) (_hlen : acs.length ≤ maxLen) (hA : ∀ a ∈ acs, ActOk w a) (row : Row w w.heap.size A (flatA acs)) :
    Calls Try.prog 3 #[.int .i64 n, .slice A acs.length c] w fun e w' => e = .returned (.bool true) ∧ Below w.heap.size w w' := by
  have HA := Lib.hid hA
  clear hA
  have hlen := _hlen
  unfold maxLen at hlen
  by_cases hr : 0 ≤ n ∧ n ≤ 4096
  · obtain ⟨N, rfl⟩ : ∃ N : Nat, n = (N : Int) := ⟨n.toNat, by omega⟩
    have hN : N ≤ 4096 := by omega
    have hN0 : (0 : Int) ≤ (N : Int) := by omega
    have hN1 : (N : Int) ≤ 4096 := by omega
    clear hn hr
    go_enter Try.func3, Try.ntmps3
    go_upto_region 7 with (first
      | (go_at_call 8; refine (pieAlive_any _).mono ?_; rintro e w1 ⟨rfl, b1⟩)
      | (go_at_call 9; refine (stoNew_any N hN w1).mono ?_; rintro e w2 ⟨O2, rfl, b2, s2, o2⟩))
    have z1 := b1.size
    have B1 := Lib.hid b1
    have z2 := b2.size
    have hz3 : (w2.alloc (.cells #[.string ⟨#[]⟩, .slice none 0 0, .int .i64 (N : Nat)] 30)).heap.size = w2.heap.size + 1 := by simp
    have K3 : Hid (Beside w1 (w2.alloc (.cells #[.string ⟨#[]⟩, .slice none 0 0, .int .i64 (N : Nat)] 30)) w1.heap.size w2.heap.size N) := by
      have b3 : Below w2.heap.size w2 (w2.alloc (.cells #[.string ⟨#[]⟩, .slice none 0 0, .int .i64 (N : Nat)] 30)) := (Below.refl _ w2).alloc (Nat.le_refl _) _
      exact ⟨O2, [], [], none, 0, s2.fresh b3, o2, b2.trans (b3.mono z2), Blk.new w2 _ _, fun h => Nat.lt_irrefl _ (s2.lt _ h), .inl rfl⟩
    generalize (w2.alloc (.cells #[.string ⟨#[]⟩, .slice none 0 0, .int .i64 (N : Nat)] 30)) = w3 at *
    generalize w2.heap.size = g6 at *
    clear b1 b2 s2 o2
    go_wp2_with fail
    go_loopw [7] (fun i wr => ∃ k : Nat, k ≤ acs.length ∧ i = .int .i64 k ∧ Beside w1 wr w1.heap.size g6 N) (fun i _ => acs.length - (intOf i).toNat)
    case atStart => exact ⟨0, Nat.zero_le _, rfl, K3.out⟩
    case round =>
      obtain ⟨k, hk, rfl, hp⟩ := hrel
      have PK := Lib.hid hp
      have zr : w1.heap.size ≤ wr.heap.size := by obtain ⟨_, _, _, _, _, _, _, hb, _⟩ := hp; exact hb.size
      have BR : Hid (Below w.heap.size w wr) := by obtain ⟨_, _, _, _, _, _, _, hb, _⟩ := hp; exact B1.out.trans (hb.mono (by omega))
      clear hp K3
      by_cases hin : k < acs.length ∧ k < 50
      · obtain ⟨hlt, h50⟩ := hin
        have h50' : (k : Int) < 50 := by omega
        have hlt' : (k : Int) < (acs.length : Int) := by omega
        obtain ⟨ad, rfl, hbl, d0, d1, d2, d3, d4, d5⟩ := act_at (row.below BR.out) hlt
        have HTX := Lib.hid ((HA.out acs[k] (List.getElem_mem hlt)).txt)
        generalize acs[k] = r at *
        obtain ⟨f, t, X, A', c', m, cu, fo⟩ := r
        dsimp only at d0 d1 d2 d3 d4 d5 HTX
        have HTS : Hid (X.length ≤ maxLen ∧ m.length ≤ maxLen) := ⟨HTX.out.hS, HTX.out.hl⟩
        go_upto_region 11 with (fail)
        have hz3 : (wr.alloc (.cells #[.int .i64 f, .int .i64 t, .string ⟨X.toArray⟩, .slice A' m.length c', .bool cu, .bool fo] 32)).heap.size = wr.heap.size + 1 := by simp
        have b3 : Below wr.heap.size wr (wr.alloc (.cells #[.int .i64 f, .int .i64 t, .string ⟨X.toArray⟩, .slice A' m.length c', .bool cu, .bool fo] 32)) := (Below.refl _ wr).alloc (Nat.le_refl _) _
        have G8 := Lib.hid (Blk.new wr 32 #[.int .i64 f, .int .i64 t, .string ⟨X.toArray⟩, .slice A' m.length c', .bool cu, .bool fo])
        generalize (wr.alloc (.cells #[.int .i64 f, .int .i64 t, .string ⟨X.toArray⟩, .slice A' m.length c', .bool cu, .bool fo] 32)) = w3 at *
        obtain ⟨O, S, b, A, cc, sr, o4, bbr, gr, no6, fr⟩ := PK.out
        have LT := Lib.hid sr.lt
        have G6L := gr.lt
        have S3 := Lib.hid (sr.fresh b3)
        have BP3 := Lib.hid (bbr.trans (b3.mono zr))
        have G63 := Lib.hid (gr.below b3 gr.lt)
        have F63 : Hid (RowF w3 (fun k => O k ∨ k = g6) A (flatR (pack b))) := fr.chg (Chg.of_fresh b3)
        have K3 := Lib.hid (PK.out.fresh b3)
        have NO6 := Lib.hid no6
        have B3 := Lib.hid (BR.out.trans (b3.mono (by omega)))
        have TX3 := Lib.hid (HTX.out.below B3.out)
        clear d0 d1 d2 d3 d4 d5 b3 PK sr bbr gr fr no6
        obtain ⟨c0, c1, c2, c3⟩ := act_cells G8.out
        by_cases hfit : X.length ≤ 5000 ∧ m.length ≤ 5000
        · go_upto_region 12 with (go_at_call 10; refine (lawFits_any X HTS.out.1 m HTS.out.2 A' c' _).mono ?_; rw [decide_eq_true hfit]; rintro e w4 ⟨rfl, b4⟩)
          have z4 := b4.size
          have S4 := Lib.hid (S3.out.fresh b4)
          have BP4 := Lib.hid (BP3.out.trans (b4.mono (by omega)))
          have G84 := Lib.hid (G8.out.below b4 (by omega))
          have G64 := Lib.hid (G63.out.below b4 (by omega))
          have F64 : Hid (RowF w4 (fun k => O k ∨ k = g6) A (flatR (pack b))) := F63.out.chg (Chg.of_fresh b4)
          have B4 := Lib.hid (B3.out.trans (b4.mono (by omega)))
          have TX4 := Lib.hid (TX3.out.below (b4.mono (by omega)))
          have K4 := Lib.hid (K3.out.fresh b4)
          have HL4 := Lib.hid S4.out.lens
          have HF4 := Lib.hid S4.out.fits
          have HG4 := Lib.hid S4.out.good
          clear c0 c1 c2 c3 b4 S3 BP3 G8 B3 TX3 G63 F63 K3
          obtain ⟨c0, c1, c2, c3⟩ := act_cells G84.out
          have c4 := act_five G84.out
          obtain ⟨y0, y1, y2, x0, x1, x2⟩ := kept_cells G64.out
          have T6 : Hid (Txt w4 w4.heap.size A S (pack b)) := ⟨by have := HL4.out.2.1; unfold maxLen; omega, HF4.out.1, by have := HF4.out.2.1; unfold maxLen; omega, F64.out.row⟩
          cases cu with
          | true =>
            obtain ⟨U, l9, n9, hcs⟩ : ∃ U l9 n9, cutS S b f t = ((U, l9), n9) := ⟨_, _, _, rfl⟩
            have HCS := Lib.hid hcs
            have HC2 : Hid (cutOf S (pack b) f t = ((U, l9), n9)) := (cut_same HG4.out).trans hcs
            clear hcs
            go_upto_region 14 with (go_at_call 11; refine (stoCut_any S4.out f t).mono ?_; rw [HCS.out]; rintro e w5 ⟨A9, c9, rfl, own9, b5⟩; dsimp only at own9 ⊢)
            have z5 := b5.size
            have hz6 : (w5.alloc (.cells #[.string ⟨U.toArray⟩, .slice A9 l9.length c9] 28)).heap.size = w5.heap.size + 1 := by simp
            have b6 : Below w4.heap.size w4 (w5.alloc (.cells #[.string ⟨U.toArray⟩, .slice A9 l9.length c9] 28)) := b5.alloc z5 _
            have G9 := Lib.hid (Blk.new w5 28 #[.string ⟨U.toArray⟩, .slice A9 l9.length c9])
            have R9 : Hid (Row (w5.alloc (.cells #[.string ⟨U.toArray⟩, .slice A9 l9.length c9] 28)) w5.heap.size A9 (flatR l9)) := (Row.of_own own9).below ((Below.refl _ _).alloc (Nat.le_refl _) _)
            generalize (w5.alloc (.cells #[.string ⟨U.toArray⟩, .slice A9 l9.length c9] 28)) = w6 at *
            have G86 := Lib.hid (G84.out.below b6 (by omega))
            have G66 := Lib.hid (G64.out.below b6 (by omega))
            have T66 := Lib.hid (T6.out.below b6)
            have K6 := Lib.hid (K4.out.fresh b6)
            clear own9 b5 b6 c0 c1 c2 c3 c4 y0 y1 y2 x0 x1 x2 K4
            obtain ⟨c0, c1, c2, c3⟩ := act_cells G86.out
            obtain ⟨y0, y1, y2, x0, x1, x2⟩ := kept_cells G66.out
            go_upto_region 15 with (go_at_call 12; refine (refTCut_any A cc w4.heap.size S (pack b) f t w6 (by omega) T66.out).mono ?_; rw [HC2.out]; rintro e w7 ⟨A11, c11, rfl, own11, b7⟩; dsimp only at own11 ⊢)
            have z7 := b7.size
            have hz8 : (w7.alloc (.cells #[.string ⟨U.toArray⟩, .slice A11 l9.length c11] 28)).heap.size = w7.heap.size + 1 := by simp
            have b8 : Below w6.heap.size w6 (w7.alloc (.cells #[.string ⟨U.toArray⟩, .slice A11 l9.length c11] 28)) := b7.alloc z7 _
            have G11 := Lib.hid (Blk.new w7 28 #[.string ⟨U.toArray⟩, .slice A11 l9.length c11])
            have R11 : Hid (Row (w7.alloc (.cells #[.string ⟨U.toArray⟩, .slice A11 l9.length c11] 28)) w7.heap.size A11 (flatR l9)) := (Row.of_own own11).below ((Below.refl _ _).alloc (Nat.le_refl _) _)
            generalize (w7.alloc (.cells #[.string ⟨U.toArray⟩, .slice A11 l9.length c11] 28)) = w8 at *
            have G98 := Lib.hid (G9.out.below b8 (by omega))
            have R98 := Lib.hid (R9.out.below (b8.mono (by omega)))
            have K8 := Lib.hid (K6.out.fresh b8)
            clear own11 b7 b8 c0 c1 c2 c3 y0 y1 y2 x0 x1 x2 K6
            obtain ⟨y0, y1⟩ := txt_cells G98.out
            obtain ⟨y2, y3⟩ := txt_cells G11.out
            have HU : Hid (U.length ≤ maxLen ∧ Fits l9 ∧ l9.length ≤ maxLen) := by
              have h := HCS.out
              unfold cutS at h
              have h4 := HL4.out.2.1
              split at h
              · obtain ⟨⟨rfl, rfl⟩, -⟩ : (_ = U ∧ _ = l9) ∧ _ = n9 := by simpa using h
                have hb := HL4.out.1
                refine ⟨by unfold maxLen; rw [List.length_take, List.length_drop]; omega, fits_pack (fun x hx => HL4.out.2.2.2.1 x (List.mem_of_mem_drop (List.mem_of_mem_take hx))) (by rw [List.length_take, List.length_drop]; omega), pack_small (by rw [List.length_take, List.length_drop]; omega)⟩
              · obtain ⟨⟨rfl, rfl⟩, -⟩ : ([] = U ∧ [] = l9) ∧ _ = n9 := by simpa using h
                exact ⟨by simp, by intro r hr; simp at hr, by simp⟩
            have T9 : Hid (Txt w8 w5.heap.size A9 U l9) := ⟨HU.out.1, HU.out.2.1, HU.out.2.2, R98.out⟩
            have T11 : Hid (Txt w8 w7.heap.size A11 U l9) := ⟨HU.out.1, HU.out.2.1, HU.out.2.2, R11.out⟩
            go_wp2_with (go_at_call 13; refine (refTSame_any A9 A11 c9 c11 w5.heap.size w7.heap.size U U l9 l9 w8 (by omega) (by omega) T9.out T11.out).mono ?_; rw [decide_eq_true ⟨rfl, rfl⟩]; rintro e w9 ⟨rfl, b9⟩)
            go_roundw
            case rel => exact ⟨k + 1, by omega, by go_num, K8.out.fresh b9⟩
            case measure => simp [intOf]; omega
          | false =>
            obtain ⟨S2, hS2⟩ : ∃ S2, putS S N f t X m = S2 := ⟨_, rfl⟩
            obtain ⟨b2, hb2⟩ : ∃ b2, putB S b N f t X m = b2 := ⟨_, rfl⟩
            obtain ⟨E2, hE2⟩ : ∃ E2, putE S N f t X m = E2 := ⟨_, rfl⟩
            have HEQ : Hid (putS S N f t X m = S2 ∧ putB S b N f t X m = b2 ∧ putE S N f t X m = E2) := ⟨hS2, hb2, hE2⟩
            clear hS2 hb2 hE2
            go_upto_region 18 with (go_at_call 14; refine (refPut_any (fun k => O k ∨ k = g6) A A' cc c' S X b m N f t w4 (fun k h => h.elim (fun h => S4.out.lt k h) (fun h => by omega)) F64.out HL4.out.2.2.2.1 (TX4.out.more (by omega)) HL4.out.1 HL4.out.2.1 hN).mono ?_; rw [HEQ.out.1, HEQ.out.2.1, HEQ.out.2.2]; rintro e w5 ⟨A13, c13, rfl, f5, b5⟩)
            have z5 := b5.size
            have hz6 : (w5.alloc (.cells #[.string ⟨S2.toArray⟩, .slice A13 (pack b2).length c13, .int .i64 (N : Nat)] 30)).heap.size = w5.heap.size + 1 := by simp
            have b6 : Below w4.heap.size w4 (w5.alloc (.cells #[.string ⟨S2.toArray⟩, .slice A13 (pack b2).length c13, .int .i64 (N : Nat)] 30)) := b5.alloc z5 _
            have G13 := Lib.hid (Blk.new w5 30 #[.string ⟨S2.toArray⟩, .slice A13 (pack b2).length c13, .int .i64 (N : Nat)])
            have F13 : Hid (RowF (w5.alloc (.cells #[.string ⟨S2.toArray⟩, .slice A13 (pack b2).length c13, .int .i64 (N : Nat)] 30)) (fun k => O k ∨ k = g6) A13 (flatR (pack b2))) := f5.chg (Chg.of_fresh ((Below.refl _ _).alloc (Nat.le_refl _) _))
            generalize (w5.alloc (.cells #[.string ⟨S2.toArray⟩, .slice A13 (pack b2).length c13, .int .i64 (N : Nat)] 30)) = w6 at *
            have S6 := Lib.hid (S4.out.fresh b6)
            have G86 := Lib.hid (G84.out.below b6 (by omega))
            have G66 := Lib.hid (G64.out.below b6 (by omega))
            have TX6 := Lib.hid (TX4.out.below (b6.mono (by omega)))
            have BP6 := Lib.hid (BP4.out.trans (b6.mono (by omega)))
            clear S4 G84 G64 TX4 BP4 F64 T6 K4 f5 b5 b6 c0 c1 c2 c3 c4 y0 y1 y2 x0 x1 x2
            obtain ⟨c0, c1, c2, c3⟩ := act_cells G86.out
            go_upto_region 20 with (go_at_call 15; refine (stoPut_any S6.out A' c' X m f t TX6.out.hS TX6.out.hf TX6.out.hl (RowF.of_row TX6.out.row (by omega) (fun k hk h => by have := o4 k h; omega))).mono ?_; rw [HEQ.out.1, HEQ.out.2.1, HEQ.out.2.2]; rintro e w7 ⟨O7, rfl, s7, p7, ch7⟩)
            have z7 := ch7.size
            have S7 := Lib.hid s7
            have G67 := Lib.hid (G66.out.chg ch7 NO6.out)
            have G137 := Lib.hid (G13.out.chg ch7 (fun h => by have := LT.out _ h; omega))
            have F137 : Hid (RowF w7 (fun k => O7 k ∨ k = g6) A13 (flatR (pack b2))) := rowF_put (O := fun k => O k ∨ k = g6) F13.out (ch7.more (fun k _ h => .inl h)) (fun k h => h.elim (fun h => (p7 k h).elim (fun h => .inl (.inl h)) .inr) (fun h => .inl (.inr h)))
            have NO7 : Hid (¬ O7 g6) := fun h => (p7 _ h).elim NO6.out (fun h => by omega)
            have P7 : Hid (∀ k, O7 k → w1.heap.size ≤ k) := fun k hk => (p7 k hk).elim (o4 k) (fun h => by omega)
            have BP7 : Hid (Below w1.heap.size w1 w7) := BP6.out.trans (ch7.below (by omega) o4)
            clear S6 G86 G66 TX6 BP6 G13 F13 ch7 s7 p7 c0 c1 c2 c3
            obtain ⟨y0, y1, y2, x0, x1, x2⟩ := kept_cells G67.out
            obtain ⟨v0, v1, v2, _, _, _⟩ := kept_cells G137.out
            go_upto_region 21 with (fail)
            have hc8 := chg_set3 w7 g6 0 1 2 (.string ⟨S2.toArray⟩) (.slice A13 (pack b2).length c13) (.int .i64 (N : Nat))
            have G68 := Lib.hid (blk_set3 G67.out (.string ⟨S2.toArray⟩) (.slice A13 (pack b2).length c13) (.int .i64 (N : Nat)))
            generalize ((w7.setCell ⟨g6, 0, none⟩ (.string ⟨S2.toArray⟩)).setCell ⟨g6, 1, none⟩ (.slice A13 (pack b2).length c13)).setCell ⟨g6, 2, none⟩ (.int .i64 (N : Nat)) = w8 at *
            have z8 := hc8.size
            have S8 := Lib.hid (S7.out.apart G67.out NO7.out (noBytes_kept _ _ _ _ _) hc8)
            have F8 : Hid (RowF w8 (fun k => O7 k ∨ k = g6) A13 (flatR (pack b2))) := F137.out.chg (hc8.more (fun k _ h => .inr h))
            have BP8 : Hid (Below w1.heap.size w1 w8) := BP7.out.trans (hc8.below (by omega) (fun k h => by omega))
            have K8 : Hid (Beside w1 w8 w1.heap.size g6 N) := ⟨O7, S2, b2, A13, c13, S8.out, P7.out, BP8.out, G68.out, NO7.out, F8.out⟩
            have HL8 := Lib.hid S8.out.lens
            have HF8 := Lib.hid S8.out.fits
            have T8 : Hid (Txt w8 w8.heap.size A13 S2 (pack b2)) := ⟨by have := HL8.out.2.1; unfold maxLen; omega, HF8.out.1, by have := HF8.out.2.1; unfold maxLen; omega, F8.out.row⟩
            have KC : Hid (∀ w', Below w8.heap.size w8 w' → (w'.cell? ⟨g6, 0, none⟩ = some (.string ⟨S2.toArray⟩) ∧ w'.cell? ⟨g6, 1, none⟩ = some (.slice A13 (pack b2).length c13))) := fun w' h => by
              obtain ⟨q0, q1, _⟩ := kept_cells (G68.out.below h G68.out.lt)
              exact ⟨q0, q1⟩
            have B0 : Hid (Below w8.heap.size w8 w8) := Below.refl _ _
            have BD : Hid (Below w8.heap.size w8 (w8.drewN 1)) := below_drewN (Below.refl _ w8) 1
            have hw := wrap_small ((N - S2.length : Nat) : Int) (by omega) (by omega)
            have hz : (N : Int) - (S2.length : Int) = ((N - S2.length : Nat) : Int) := by have := HL8.out.2.1; omega
            clear S7 G67 G137 F137 BP7 y0 y1 y2 x0 x1 x2 v0 v1 v2 hc8
            go_cut [129] (fun s129 wx => s129 = .bool false ∧ Below w8.heap.size w8 wx)
            case first =>
              go_region_held3 (fun w' => (w'.cell? ⟨g6, 0, none⟩ = some (.string ⟨S2.toArray⟩) ∧ w'.cell? ⟨g6, 1, none⟩ = some (.slice A13 (pack b2).length c13)))
                (first | exact KC.out _ BX.out | exact KC.out _ BD.out | exact KC.out _ B0.out)
                (first
                  | (go_at_call 16; refine (stoText_any (S8.out.fresh BD.out)).mono ?_; rintro e wx ⟨A9, c9, rfl, own9, bx⟩; have BX : Hid (Below w8.heap.size w8 wx) := BD.out.trans (bx.mono BD.out.size); have T9 : Hid (Txt wx wx.heap.size A9 S2 (pack b2)) := ⟨T8.out.hS, T8.out.hf, T8.out.hl, Row.of_own own9⟩; clear bx own9)
                  | (go_at_call 13; refine (refTSame_any A9 A13 c9 c13 _ w8.heap.size S2 S2 (pack b2) (pack b2) _ (Nat.le_refl _) BX.out.size T9.out (T8.out.below BX.out)).mono ?_; rw [decide_eq_true ⟨rfl, rfl⟩]; rintro e wx ⟨rfl, bx⟩; have BX : Hid (Below w8.heap.size w8 wx) := BX.out.trans (bx.mono BX.out.size); clear bx)
                  | (go_at_call 17; refine (stoLen_any (S8.out.fresh BX.out)).mono ?_; rintro e wx ⟨rfl, bx⟩; have BX : Hid (Below w8.heap.size w8 wx) := BX.out.trans (bx.mono BX.out.size); clear bx)
                  | (go_at_call 18; refine (stoRoom_any (S8.out.fresh BX.out)).mono ?_; rintro e wx ⟨rfl, bx⟩; have BX : Hid (Below w8.heap.size w8 wx) := BX.out.trans (bx.mono BX.out.size); clear bx))
              all_goals
                go_wp2_with fail
                go_meet
                exact ⟨rfl, BX.out⟩
            case rest =>
              obtain ⟨rfl, BX⟩ := hcut
              have BX := Lib.hid BX
              go_wp2_with fail
              go_roundw
              case rel => exact ⟨k + 1, by omega, by go_num, K8.out.fresh BX.out⟩
              case measure => simp [intOf]; omega
        · go_wp2_with (go_at_call 10; refine (lawFits_any X HTS.out.1 m HTS.out.2 A' c' _).mono ?_; rw [decide_eq_false hfit]; rintro e w4 ⟨rfl, b4⟩)
          go_roundw
          case rel => exact ⟨k + 1, by omega, by go_num, K3.out.fresh b4⟩
          case measure => simp [intOf]; omega
      · have hout : (¬ (k : Int) < (acs.length : Int)) ∨ ((k : Int) < (acs.length : Int) ∧ ¬ (k : Int) < 50) := by omega
        rcases hout with hx | ⟨hx, hy⟩
        all_goals
          go_wp2_with fail
          go_ret
          exact ⟨rfl, BR.out⟩
  · have h1 : (decide (0 ≤ n) && decide (n ≤ 4096)) = false := by
      by_cases h : 0 ≤ n
      · have : ¬ n ≤ 4096 := fun h' => hr ⟨h, h'⟩
        simp [this]
      · simp [h]
    by_cases h0 : 0 ≤ n
    all_goals
      have HD := Lib.hid h1
      go_enter Try.func3, Try.ntmps3
      go_upto_region 7 with (first
        | (go_at_call 8; refine (pieAlive_any _).mono ?_; rintro e w1 ⟨rfl, b1⟩)
        | (go_at_call 9; refine (pieNew_no n hr w1).mono ?_; rintro e w2 ⟨rfl, rfl⟩))
      have B3 := Lib.hid (b1.alloc b1.size (.cells #[.string ⟨#[]⟩, .slice none 0 0, .int .i64 n] 30))
      generalize w1.alloc (.cells #[.string ⟨#[]⟩, .slice none 0 0, .int .i64 n] 30) = w3 at *
      go_wp2_with fail
      go_loopw [7] (fun i wr => i = .int .i64 0 ∧ Below w.heap.size w wr) (fun i _ => 1 - (intOf i).toNat)
      case atStart => exact ⟨rfl, B3.out⟩
      case round =>
        obtain ⟨rfl, hb⟩ := hrel
        go_wp2_with fail
        go_ret
        exact ⟨rfl, hb⟩
end Go.Proofs.Ytacpfkkbjibmgaa

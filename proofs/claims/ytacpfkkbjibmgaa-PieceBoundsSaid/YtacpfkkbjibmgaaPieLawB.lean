/-
  There are never more bytes than there may be, and what is refused changes nothing: layer 5.
-/
import Derived.Test.YtacpfkkbjibmgaaPiePlay
import Derived.Deep.RegionHeld3
import Derived.Deep.DrawnRows
namespace Go.Proofs.Ytacpfkkbjibmgaa
open Go.RowKit
attribute [local go_sem ↓] Go.wp_at_zero Go.wp_at_succ

set_option maxRecDepth 100000 in
set_option maxHeartbeats 40000000 in
theorem pieceBounds_walk (w : World) (n : Int) (hn : -9223372036854775808 ≤ n ∧ n ≤ 9223372036854775807) (A : Option Addr) (c : Nat) (acs : List ActP) (_hlen : acs.length ≤ maxLen) (hA : ∀ a ∈ acs, ActOk w a) (row : Row w w.heap.size A (flatA acs)) :
    Calls Try.prog 5 #[.int .i64 n, .slice A acs.length c] w fun e w' => e = .returned (.bool true) ∧ Below w.heap.size w w' := by
  have HA := Lib.hid hA
  clear hA
  have hlen := _hlen
  unfold maxLen at hlen
  by_cases hr : 0 ≤ n ∧ n ≤ 4096
  · obtain ⟨N, rfl⟩ : ∃ N : Nat, n = (N : Int) := ⟨n.toNat, by omega⟩
    have hN : N ≤ 4096 := by omega
    clear hn hr
    go_enter Try.func5, Try.ntmps5
    go_wp2_with (first
      | (go_at_call 8; refine (pieAlive_any _).mono ?_; rintro e w1 ⟨rfl, b1⟩)
      | (go_at_call 9; refine (stoNew_any N hN w1).mono ?_; rintro e w2 ⟨O2, rfl, b2, s2, o2⟩))
    have z1 := b1.size
    have B1 := Lib.hid b1
    have P2 : Hid (Plays w1 w2 w1.heap.size N) := ⟨O2, _, _, s2, o2, b2⟩
    have z2 := b2.size
    clear b1 b2 s2 o2
    go_loopw [6] (fun i wr => ∃ k : Nat, k ≤ acs.length ∧ i = .int .i64 k ∧ Plays w1 wr w1.heap.size N) (fun i _ => acs.length - (intOf i).toNat)
    case atStart => exact ⟨0, Nat.zero_le _, rfl, P2.out⟩
    case round =>
      obtain ⟨k, hk, rfl, hp⟩ := hrel
      have PK := Lib.hid hp
      have zr : w1.heap.size ≤ wr.heap.size := by obtain ⟨_, _, _, _, _, hb⟩ := hp; exact hb.size
      have BR : Hid (Below w.heap.size w wr) := by obtain ⟨_, _, _, _, _, hb⟩ := hp; exact B1.out.trans (hb.mono (by omega))
      clear hp P2
      by_cases hin : k < acs.length ∧ k < 50
      · obtain ⟨hlt, h50⟩ := hin
        have h50' : (k : Int) < 50 := by omega
        have hlt' : (k : Int) < (acs.length : Int) := by omega
        obtain ⟨ad, rfl, hbl, d0, d1, d2, d3, d4, d5⟩ := act_at (row.below BR.out) hlt
        have HTX := Lib.hid ((HA.out acs[k] (List.getElem_mem hlt)).txt)
        generalize acs[k] = r at *
        obtain ⟨f, t, X, A', c', m, cu, fo⟩ := r
        dsimp only at d0 d1 d2 d3 d4 d5 HTX
        have HTS : Hid (X.length ≤ maxLen ∧ m.length ≤ maxLen) := ⟨HTX.out.hS, HTX.out.hl⟩
        go_upto_region 10 with (fail)
        have hz3 : (wr.alloc (.cells #[.int .i64 f, .int .i64 t, .string ⟨X.toArray⟩, .slice A' m.length c', .bool cu, .bool fo] 32)).heap.size = wr.heap.size + 1 := by simp
        have b3 : Below wr.heap.size wr (wr.alloc (.cells #[.int .i64 f, .int .i64 t, .string ⟨X.toArray⟩, .slice A' m.length c', .bool cu, .bool fo] 32)) := (Below.refl _ wr).alloc (Nat.le_refl _) _
        have G7 := Lib.hid (Blk.new wr 32 #[.int .i64 f, .int .i64 t, .string ⟨X.toArray⟩, .slice A' m.length c', .bool cu, .bool fo])
        generalize wr.alloc (.cells #[.int .i64 f, .int .i64 t, .string ⟨X.toArray⟩, .slice A' m.length c', .bool cu, .bool fo] 32) = w3 at *
        obtain ⟨O, S, b, sr, o4, bbr⟩ := PK.out
        have LT := Lib.hid sr.lt
        have S3 := Lib.hid (sr.fresh b3)
        have BP3 := Lib.hid (bbr.trans (b3.mono zr))
        clear sr bbr
        have B3 := Lib.hid (BR.out.trans (b3.mono (by omega)))
        have TX3 := Lib.hid (HTX.out.below B3.out)
        clear d0 d1 d2 d3 d4 d5 b3 PK
        obtain ⟨c0, c1, c2, c3⟩ := act_cells G7.out
        by_cases hfit : X.length ≤ 5000 ∧ m.length ≤ 5000
        · go_upto_region 11 with (go_at_call 10; refine (lawFits_any X HTS.out.1 m HTS.out.2 A' c' _).mono ?_; rw [decide_eq_true hfit]; rintro e w4 ⟨rfl, b4⟩)
          have z4 := b4.size
          have S4 := Lib.hid (S3.out.fresh b4)
          have BP4 := Lib.hid (BP3.out.trans (b4.mono (by omega)))
          have G74 := Lib.hid (G7.out.below b4 (by omega))
          have B4 := Lib.hid (B3.out.trans (b4.mono (by omega)))
          have TX4 := Lib.hid (TX3.out.below (b4.mono (by omega)))
          clear c0 c1 c2 c3 b4 S3 BP3 G7 B3 TX3
          obtain ⟨c0, c1, c2, c3⟩ := act_cells G74.out
          go_upto_region 12 with (go_at_call 16; refine (stoText_any S4.out).mono ?_; rintro e w5 ⟨A8, c8, rfl, own8, b5⟩)
          have z5 := b5.size
          have hz6 : (w5.alloc (.cells #[.string ⟨S.toArray⟩, .slice A8 (pack b).length c8] 28)).heap.size = w5.heap.size + 1 := by simp
          have b6 : Below w4.heap.size w4 (w5.alloc (.cells #[.string ⟨S.toArray⟩, .slice A8 (pack b).length c8] 28)) := b5.alloc z5 _
          have G8 := Lib.hid (Blk.new w5 28 #[.string ⟨S.toArray⟩, .slice A8 (pack b).length c8])
          have F8 : Hid (RowF (w5.alloc (.cells #[.string ⟨S.toArray⟩, .slice A8 (pack b).length c8] 28)) O A8 (flatR (pack b))) := (RowF.of_own own8 (fun k hk _ ho => by have := S4.out.lt k ho; omega)).chg (Chg.of_fresh ((Below.refl _ _).alloc (Nat.le_refl _) _))
          generalize (w5.alloc (.cells #[.string ⟨S.toArray⟩, .slice A8 (pack b).length c8] 28)) = w6 at *
          have S6 := Lib.hid (S4.out.fresh b6)
          have G76 := Lib.hid (G74.out.below b6 (by omega))
          have TX6 := Lib.hid (TX4.out.below (b6.mono (by omega)))
          have B6 := Lib.hid (B4.out.trans (b6.mono (by omega)))
          have BP6 := Lib.hid (BP4.out.trans (b6.mono (by omega)))
          clear S4 G74 TX4 B4 BP4 own8 b5 b6 c0 c1 c2 c3
          obtain ⟨c0, c1, c2, c3⟩ := act_cells G76.out
          have hL := S6.out.lens
          have hFT := Lib.hid (S6.out.fits)
          have HL := Lib.hid hL
          have hbl2 := hL.1
          have hsl := hL.2.1
          clear hL
          go_upto_region 13 with (go_at_call 15; refine (stoPut_any S6.out A' c' X m f t TX6.out.hS TX6.out.hf TX6.out.hl (RowF.of_row TX6.out.row (by omega) (fun k hk h => by have := o4 k h; omega))).mono ?_; rintro e w7 ⟨O7, rfl, s7, p7, ch7⟩)
          have z7 := ch7.size
          have S7 := Lib.hid s7
          have G77 := Lib.hid (G76.out.chg ch7 (fun h => Nat.lt_irrefl _ (LT.out _ h)))
          have G87 := Lib.hid (G8.out.chg ch7 (fun h => by have := LT.out _ h; omega))
          have F87 := Lib.hid (rowF_put F8.out ch7 p7)
          have P7 : Hid (∀ k, O7 k → w1.heap.size ≤ k) := fun k hk => (p7 k hk).elim (o4 k) (fun h => by omega)
          have BP7 : Hid (Below w1.heap.size w1 w7) := BP6.out.trans (ch7.below (by omega) o4)
          have HE := Lib.hid (rfl : putE S N f t X m = putE S N f t X m)
          obtain ⟨S2, hS2⟩ : ∃ S2, putS S N f t X m = S2 := ⟨_, rfl⟩
          obtain ⟨b2, hb2⟩ : ∃ b2, putB S b N f t X m = b2 := ⟨_, rfl⟩
          obtain ⟨E2, hE2⟩ : ∃ E2, putE S N f t X m = E2 := ⟨_, rfl⟩
          have HS2 := Lib.hid hS2
          have HB2 := Lib.hid hb2
          have HE2 := Lib.hid hE2
          rw [hS2, hb2] at S7
          rw [hE2]
          clear S6 G76 TX6 B6 BP6 G8 F8 ch7 s7 p7 c0 c1 c2 c3 hS2 hb2 hE2 HE
          go_upto_region 14 with (go_at_call 16; refine (stoText_any S7.out).mono ?_; rintro e w8 ⟨A10, c10, rfl, own10, b8⟩)
          have z8 := b8.size
          have hz9 : (w8.alloc (.cells #[.string ⟨S2.toArray⟩, .slice A10 (pack b2).length c10] 28)).heap.size = w8.heap.size + 1 := by simp
          have b9 : Below w7.heap.size w7 (w8.alloc (.cells #[.string ⟨S2.toArray⟩, .slice A10 (pack b2).length c10] 28)) := b8.alloc z8 _
          have G10 := Lib.hid (Blk.new w8 28 #[.string ⟨S2.toArray⟩, .slice A10 (pack b2).length c10])
          have R10 : Hid (Row (w8.alloc (.cells #[.string ⟨S2.toArray⟩, .slice A10 (pack b2).length c10] 28)) w8.heap.size A10 (flatR (pack b2))) := (Row.of_own own10).below ((Below.refl _ _).alloc (Nat.le_refl _) _)
          generalize (w8.alloc (.cells #[.string ⟨S2.toArray⟩, .slice A10 (pack b2).length c10] 28)) = w9 at *
          have S9 := Lib.hid (S7.out.fresh b9)
          have G79 := Lib.hid (G77.out.below b9 (by omega))
          have G89 := Lib.hid (G87.out.below b9 (by omega))
          have R8 : Hid (Row w9 w7.heap.size A8 (flatR (pack b))) := F87.out.row.below b9
          have BP9 := Lib.hid (BP7.out.trans (b9.mono (by omega)))
          have HL9 := Lib.hid S9.out.lens
          have HF9 := Lib.hid S9.out.fits
          have HG9 := Lib.hid S9.out.good
          have T10 : Hid (Txt w9 w8.heap.size A10 S2 (pack b2)) := ⟨by have := HL9.out.2.1; unfold maxLen; omega, HF9.out.1, by have := HF9.out.2.1; unfold maxLen; omega, R10.out⟩
          have T8 : Hid (Txt w9 w7.heap.size A8 S (pack b)) := ⟨by unfold maxLen; omega, hFT.out.1, by have := hFT.out.2.1; unfold maxLen; omega, R8.out⟩
          clear S7 G77 G87 F87 own10 b8 b9 R10 R8 BP7
          have KC : Hid (∀ w', Below w9.heap.size w9 w' → ((w'.cell? ⟨w5.heap.size, 0, none⟩ = some (.string ⟨S.toArray⟩) ∧ w'.cell? ⟨w5.heap.size, 1, none⟩ = some (.slice A8 (pack b).length c8)) ∧ (w'.cell? ⟨w8.heap.size, 0, none⟩ = some (.string ⟨S2.toArray⟩) ∧ w'.cell? ⟨w8.heap.size, 1, none⟩ = some (.slice A10 (pack b2).length c10)))) := fun w' h => ⟨txt_cells (G89.out.below h (by omega)), txt_cells (G10.out.below h (by omega))⟩
          have B0 : Hid (Below w9.heap.size w9 w9) := Below.refl _ _
          have BD : Hid (Below w9.heap.size w9 (w9.drewN 1)) := below_drewN (Below.refl _ w9) 1
          have Z8 : Hid (w8.heap.size ≤ w9.heap.size ∧ w7.heap.size ≤ w9.heap.size) := ⟨by omega, by omega⟩
          have g1 : decide (N < S2.length) = false := decide_eq_false (by have := HL9.out.2.1; omega)
          have hw := wrap_small ((N - S2.length : Nat) : Int) (by omega) (by omega)
          have hz : (N : Int) - (S2.length : Int) = ((N - S2.length : Nat) : Int) := by have := HL9.out.2.1; omega
          go_cut [88] (fun s88 wx => s88 = .bool false ∧ Below w9.heap.size w9 wx)
          case first =>
            by_cases hE : E2 = 0
            · subst hE
              refine wp_region_held_drew (S := fun w' => ((w'.cell? ⟨w5.heap.size, 0, none⟩ = some (.string ⟨S.toArray⟩) ∧ w'.cell? ⟨w5.heap.size, 1, none⟩ = some (.slice A8 (pack b).length c8)) ∧ (w'.cell? ⟨w8.heap.size, 0, none⟩ = some (.string ⟨S2.toArray⟩) ∧ w'.cell? ⟨w8.heap.size, 1, none⟩ = some (.slice A10 (pack b2).length c10)))) (by kernel_rfl) (KC.out _ BD.out) (fun hHeld => ?_)
              refine wpAnyH_take (i := 0) (v := ?_) rfl (by kernel_rfl) (by kernel_rfl) (by kernel_rfl) (fun _ _ _ h => h) (Or.inl ⟨by rfl, ?_⟩) (by assumption) ?_
              rotate_left
              · (intro w hSw; (try dsimp only at hSw); go_simp; (try with_reducible rfl))
              try simp only [List.getElem_toArray, List.getElem_cons_zero, Act.put, List.setIfInBounds_toArray, List.set_cons_zero, List.set_cons_succ]
              refine wpAnyH_ready (rs := [1]) (by kernel_rfl) (by simp) ?_
              refine AllReadyH.cons rfl (fun K hK => ?_) AllReadyH.nil
              go_simp
              (go_at_call 20; refine (refTGood_any A10 c10 w8.heap.size S2 (pack b2) _ (Nat.le_trans Z8.out.1 BD.out.size) (T10.out.below (BD.out.mono Z8.out.1))).mono ?_; rw [HG9.out]; rintro e wx ⟨rfl, bx⟩; have BX : Hid (Below w9.heap.size w9 wx) := BD.out.trans (bx.mono BD.out.size); clear bx)
              try go_wp2_with fail
              refine hK.out _ _ (KC.out _ BX.out) (fun hHeld => ?_)
              clear hK K
              try simp only [List.getElem_toArray, List.getElem_cons_zero, List.getElem_cons_succ, Act.put, List.setIfInBounds_toArray, List.set_cons_zero, List.set_cons_succ]
              refine wpAnyH_take (i := 2) (v := ?_) rfl (by kernel_rfl) (by kernel_rfl) (by kernel_rfl) (fun _ _ _ h => h) (Or.inl ⟨by rfl, ?_⟩) (by assumption) ?_
              rotate_left
              · (intro w hSw; (try dsimp only at hSw); go_simp; (try with_reducible rfl))
              try simp only [List.getElem_toArray, List.getElem_cons_zero, List.getElem_cons_succ, Act.put, List.setIfInBounds_toArray, List.set_cons_zero, List.set_cons_succ]
              refine wpAnyH_take (i := 3) (v := ?_) rfl (by kernel_rfl) (by kernel_rfl) (by kernel_rfl) (fun _ _ _ h => h) (Or.inl ⟨by rfl, ?_⟩) (by assumption) ?_
              rotate_left
              · (intro w hSw; (try dsimp only at hSw); go_simp; (try with_reducible rfl))
              try simp only [List.getElem_toArray, List.getElem_cons_zero, List.getElem_cons_succ, Act.put, List.setIfInBounds_toArray, List.set_cons_zero, List.set_cons_succ]
              refine wpAnyH_take (i := 4) (v := ?_) rfl (by kernel_rfl) (by kernel_rfl) (by kernel_rfl) (fun _ _ _ h => h) (Or.inl ⟨by rfl, ?_⟩) (by assumption) ?_
              rotate_left
              · (intro w hSw; (try dsimp only at hSw); go_simp; (try with_reducible rfl))
              try simp only [List.getElem_toArray, List.getElem_cons_zero, List.getElem_cons_succ, Act.put, List.setIfInBounds_toArray, List.set_cons_zero, List.set_cons_succ]
              refine wpAnyH_take (i := 6) (v := ?_) rfl (by kernel_rfl) (by kernel_rfl) (by kernel_rfl) (fun _ _ _ h => h) (Or.inl ⟨by rfl, ?_⟩) (by assumption) ?_
              rotate_left
              · (intro w hSw; (try dsimp only at hSw); go_simp; (try with_reducible rfl))
              try simp only [List.getElem_toArray, List.getElem_cons_zero, List.getElem_cons_succ, Act.put, List.setIfInBounds_toArray, List.set_cons_zero, List.set_cons_succ]
              refine wpAnyH_take (i := 7) (v := ?_) rfl (by kernel_rfl) (by kernel_rfl) (by kernel_rfl) (fun _ _ _ h => h) (Or.inl ⟨by rfl, ?_⟩) (by assumption) ?_
              rotate_left
              · (intro w hSw; (try dsimp only at hSw); go_simp; (try with_reducible rfl))
              try simp only [List.getElem_toArray, List.getElem_cons_zero, List.getElem_cons_succ, Act.put, List.setIfInBounds_toArray, List.set_cons_zero, List.set_cons_succ]
              refine wpAnyH_take (i := 8) (v := ?_) rfl (by kernel_rfl) (by kernel_rfl) (by kernel_rfl) (fun _ _ _ h => h) (Or.inl ⟨by rfl, ?_⟩) (by assumption) ?_
              rotate_left
              · (intro w hSw; (try dsimp only at hSw); go_simp; (try with_reducible rfl))
              try simp only [List.getElem_toArray, List.getElem_cons_zero, List.getElem_cons_succ, Act.put, List.setIfInBounds_toArray, List.set_cons_zero, List.set_cons_succ]
              refine wpAnyH_ready (rs := [5]) (by kernel_rfl) (by simp) ?_
              refine AllReadyH.cons rfl (fun K hK => ?_) AllReadyH.nil
              go_simp
              (go_at_call 17; refine (stoLen_any (S9.out.fresh BX.out)).mono ?_; rintro e wx ⟨rfl, bx⟩; have BX : Hid (Below w9.heap.size w9 wx) := BX.out.trans (bx.mono BX.out.size); clear bx)
              try go_wp2_with fail
              refine hK.out _ _ (KC.out _ BX.out) (fun hHeld => ?_)
              clear hK K
              try simp only [List.getElem_toArray, List.getElem_cons_zero, List.getElem_cons_succ, Act.put, List.setIfInBounds_toArray, List.set_cons_zero, List.set_cons_succ]
              refine wpAnyH_take (i := 9) (v := ?_) rfl (by kernel_rfl) (by kernel_rfl) (by kernel_rfl) (fun _ _ _ h => h) (Or.inl ⟨by rfl, ?_⟩) (by assumption) ?_
              rotate_left
              · (intro w hSw; (try dsimp only at hSw); go_simp; (try with_reducible rfl))
              try simp only [List.getElem_toArray, List.getElem_cons_zero, List.getElem_cons_succ, Act.put, List.setIfInBounds_toArray, List.set_cons_zero, List.set_cons_succ]
              refine wpAnyH_take (i := 10) (v := ?_) rfl (by kernel_rfl) (by kernel_rfl) (by kernel_rfl) (fun _ _ _ h => h) (Or.inl ⟨by rfl, ?_⟩) (by assumption) ?_
              rotate_left
              · (intro w hSw; (try dsimp only at hSw); go_simp; (try with_reducible rfl))
              try simp only [List.getElem_toArray, List.getElem_cons_zero, List.getElem_cons_succ, Act.put, List.setIfInBounds_toArray, List.set_cons_zero, List.set_cons_succ]
              refine wpAnyH_take (i := 11) (v := ?_) rfl (by kernel_rfl) (by kernel_rfl) (by kernel_rfl) (fun _ _ _ h => h) (Or.inl ⟨by rfl, ?_⟩) (by assumption) ?_
              rotate_left
              · (intro w hSw; (try dsimp only at hSw); go_simp; (try with_reducible rfl))
              try simp only [List.getElem_toArray, List.getElem_cons_zero, List.getElem_cons_succ, Act.put, List.setIfInBounds_toArray, List.set_cons_zero, List.set_cons_succ]
              refine wpAnyH_take (i := 12) (v := ?_) rfl (by kernel_rfl) (by kernel_rfl) (by kernel_rfl) (fun _ _ _ h => h) (Or.inl ⟨by rfl, ?_⟩) (by assumption) ?_
              rotate_left
              · (intro w hSw; (try dsimp only at hSw); go_simp; (try with_reducible rfl))
              try simp only [List.getElem_toArray, List.getElem_cons_zero, List.getElem_cons_succ, Act.put, List.setIfInBounds_toArray, List.set_cons_zero, List.set_cons_succ]
              refine wpAnyH_take (i := 14) (v := ?_) rfl (by kernel_rfl) (by kernel_rfl) (by kernel_rfl) (fun _ _ _ h => h) (Or.inl ⟨by rfl, ?_⟩) (by assumption) ?_
              rotate_left
              · (intro w hSw; (try dsimp only at hSw); go_simp; (try with_reducible rfl))
              try simp only [List.getElem_toArray, List.getElem_cons_zero, List.getElem_cons_succ, Act.put, List.setIfInBounds_toArray, List.set_cons_zero, List.set_cons_succ]
              refine wpAnyH_ready (rs := [13]) (by kernel_rfl) (by simp) ?_
              refine AllReadyH.cons rfl (fun K hK => ?_) AllReadyH.nil
              go_simp
              (go_at_call 17; refine (stoLen_any (S9.out.fresh BX.out)).mono ?_; rintro e wx ⟨rfl, bx⟩; have BX : Hid (Below w9.heap.size w9 wx) := BX.out.trans (bx.mono BX.out.size); clear bx)
              try go_wp2_with fail
              refine hK.out _ _ (KC.out _ BX.out) (fun hHeld => ?_)
              clear hK K
              try simp only [List.getElem_toArray, List.getElem_cons_zero, List.getElem_cons_succ, Act.put, List.setIfInBounds_toArray, List.set_cons_zero, List.set_cons_succ]
              refine wpAnyH_take (i := 15) (v := ?_) rfl (by kernel_rfl) (by kernel_rfl) (by kernel_rfl) (fun _ _ _ h => h) (Or.inl ⟨by rfl, ?_⟩) (by assumption) ?_
              rotate_left
              · (intro w hSw; (try dsimp only at hSw); go_simp; (try with_reducible rfl))
              try simp only [List.getElem_toArray, List.getElem_cons_zero, List.getElem_cons_succ, Act.put, List.setIfInBounds_toArray, List.set_cons_zero, List.set_cons_succ]
              refine wpAnyH_take (i := 16) (v := ?_) rfl (by kernel_rfl) (by kernel_rfl) (by kernel_rfl) (fun _ _ _ h => h) (Or.inl ⟨by rfl, ?_⟩) (by assumption) ?_
              rotate_left
              · (intro w hSw; (try dsimp only at hSw); go_simp; (try with_reducible rfl))
              try simp only [List.getElem_toArray, List.getElem_cons_zero, List.getElem_cons_succ, Act.put, List.setIfInBounds_toArray, List.set_cons_zero, List.set_cons_succ]
              refine wpAnyH_take (i := 17) (v := ?_) rfl (by kernel_rfl) (by kernel_rfl) (by kernel_rfl) (fun _ _ _ h => h) (Or.inl ⟨by rfl, ?_⟩) (by assumption) ?_
              rotate_left
              · (intro w hSw; (try dsimp only at hSw); go_simp; (try with_reducible rfl))
              try simp only [List.getElem_toArray, List.getElem_cons_zero, List.getElem_cons_succ, Act.put, List.setIfInBounds_toArray, List.set_cons_zero, List.set_cons_succ]
              refine wpAnyH_take (i := 18) (v := ?_) rfl (by kernel_rfl) (by kernel_rfl) (by kernel_rfl) (fun _ _ _ h => h) (Or.inl ⟨by rfl, ?_⟩) (by assumption) ?_
              rotate_left
              · (intro w hSw; (try dsimp only at hSw); go_simp; (try with_reducible rfl))
              try simp only [List.getElem_toArray, List.getElem_cons_zero, List.getElem_cons_succ, Act.put, List.setIfInBounds_toArray, List.set_cons_zero, List.set_cons_succ]
              refine wpAnyH_take (i := 20) (v := ?_) rfl (by kernel_rfl) (by kernel_rfl) (by kernel_rfl) (fun _ _ _ h => h) (Or.inl ⟨by rfl, ?_⟩) (by assumption) ?_
              rotate_left
              · (intro w hSw; (try dsimp only at hSw); go_simp; (try with_reducible rfl))
              try simp only [List.getElem_toArray, List.getElem_cons_zero, List.getElem_cons_succ, Act.put, List.setIfInBounds_toArray, List.set_cons_zero, List.set_cons_succ]
              refine wpAnyH_take (i := 21) (v := ?_) rfl (by kernel_rfl) (by kernel_rfl) (by kernel_rfl) (fun _ _ _ h => h) (Or.inl ⟨by rfl, ?_⟩) (by assumption) ?_
              rotate_left
              · (intro w hSw; (try dsimp only at hSw); go_simp; (try with_reducible rfl))
              try simp only [List.getElem_toArray, List.getElem_cons_zero, List.getElem_cons_succ, Act.put, List.setIfInBounds_toArray, List.set_cons_zero, List.set_cons_succ]
              refine wpAnyH_ready (rs := [19]) (by kernel_rfl) (by simp) ?_
              refine AllReadyH.cons rfl (fun K hK => ?_) AllReadyH.nil
              go_simp
              (go_at_call 18; refine (stoRoom_any (S9.out.fresh BX.out)).mono ?_; rintro e wx ⟨rfl, bx⟩; have BX : Hid (Below w9.heap.size w9 wx) := BX.out.trans (bx.mono BX.out.size); clear bx)
              try go_wp2_with fail
              refine hK.out _ _ (KC.out _ BX.out) (fun hHeld => ?_)
              clear hK K
              try simp only [List.getElem_toArray, List.getElem_cons_zero, List.getElem_cons_succ, Act.put, List.setIfInBounds_toArray, List.set_cons_zero, List.set_cons_succ]
              refine wpAnyH_ready (rs := [22]) (by kernel_rfl) (by simp) ?_
              refine AllReadyH.cons rfl (fun K hK => ?_) AllReadyH.nil
              go_simp
              (go_at_call 17; refine (stoLen_any (S9.out.fresh BX.out)).mono ?_; rintro e wx ⟨rfl, bx⟩; have BX : Hid (Below w9.heap.size w9 wx) := BX.out.trans (bx.mono BX.out.size); clear bx)
              try go_wp2_with fail
              refine hK.out _ _ (KC.out _ BX.out) (fun hHeld => ?_)
              clear hK K
              try simp only [List.getElem_toArray, List.getElem_cons_zero, List.getElem_cons_succ, Act.put, List.setIfInBounds_toArray, List.set_cons_zero, List.set_cons_succ]
              refine wpAnyH_take (i := 23) (v := ?_) rfl (by kernel_rfl) (by kernel_rfl) (by kernel_rfl) (fun _ _ _ h => h) (Or.inl ⟨by rfl, ?_⟩) (by assumption) ?_
              rotate_left
              · (intro w hSw; (try dsimp only at hSw); go_simp; (try with_reducible rfl))
              try simp only [List.getElem_toArray, List.getElem_cons_zero, List.getElem_cons_succ, Act.put, List.setIfInBounds_toArray, List.set_cons_zero, List.set_cons_succ]
              refine wpAnyH_take (i := 24) (v := ?_) rfl (by kernel_rfl) (by kernel_rfl) (by kernel_rfl) (fun _ _ _ h => h) (Or.inl ⟨by rfl, ?_⟩) (by assumption) ?_
              rotate_left
              · (intro w hSw; (try dsimp only at hSw); go_simp; (try with_reducible rfl))
              try simp only [List.getElem_toArray, List.getElem_cons_zero, List.getElem_cons_succ, Act.put, List.setIfInBounds_toArray, List.set_cons_zero, List.set_cons_succ]
              refine wpAnyH_take (i := 25) (v := ?_) rfl (by kernel_rfl) (by kernel_rfl) (by kernel_rfl) (fun _ _ _ h => h) (Or.inl ⟨by rfl, ?_⟩) (by assumption) ?_
              rotate_left
              · (intro w hSw; (try dsimp only at hSw); go_simp; (try with_reducible rfl))
              try simp only [List.getElem_toArray, List.getElem_cons_zero, List.getElem_cons_succ, Act.put, List.setIfInBounds_toArray, List.set_cons_zero, List.set_cons_succ]
              refine wpAnyH_take (i := 26) (v := ?_) rfl (by kernel_rfl) (by kernel_rfl) (by kernel_rfl) (fun _ _ _ h => h) (Or.inl ⟨by rfl, ?_⟩) (by assumption) ?_
              rotate_left
              · (intro w hSw; (try dsimp only at hSw); go_simp; (try with_reducible rfl))
              try simp only [List.getElem_toArray, List.getElem_cons_zero, List.getElem_cons_succ, Act.put, List.setIfInBounds_toArray, List.set_cons_zero, List.set_cons_succ]
              refine wpAnyH_take (i := 27) (v := ?_) rfl (by kernel_rfl) (by kernel_rfl) (by kernel_rfl) (fun _ _ _ h => h) (Or.inl ⟨by rfl, ?_⟩) (by assumption) ?_
              rotate_left
              · (intro w hSw; (try dsimp only at hSw); go_simp; (try with_reducible rfl))
              try simp only [List.getElem_toArray, List.getElem_cons_zero, List.getElem_cons_succ, Act.put, List.setIfInBounds_toArray, List.set_cons_zero, List.set_cons_succ]
              refine wpAnyH_take (i := 28) (v := ?_) rfl (by kernel_rfl) (by kernel_rfl) (by kernel_rfl) (fun _ _ _ h => h) (Or.inl ⟨by rfl, ?_⟩) (by assumption) ?_
              rotate_left
              · (intro w hSw; (try dsimp only at hSw); go_simp; (try with_reducible rfl))
              try simp only [List.getElem_toArray, List.getElem_cons_zero, List.getElem_cons_succ, Act.put, List.setIfInBounds_toArray, List.set_cons_zero, List.set_cons_succ]
              refine wpAnyH_take (i := 29) (v := ?_) rfl (by kernel_rfl) (by kernel_rfl) (by kernel_rfl) (fun _ _ _ h => h) (Or.inl ⟨by rfl, ?_⟩) (by assumption) ?_
              rotate_left
              · (intro w hSw; (try dsimp only at hSw); go_simp; (try with_reducible rfl))
              try simp only [List.getElem_toArray, List.getElem_cons_zero, List.getElem_cons_succ, Act.put, List.setIfInBounds_toArray, List.set_cons_zero, List.set_cons_succ]
              refine wpAnyH_take (i := 30) (v := undef) rfl (by kernel_rfl) (by kernel_rfl) (by kernel_rfl) (fun _ _ _ h => h) (Or.inr ⟨by rfl, rfl⟩) (by assumption) ?_
              try simp only [List.getElem_toArray, List.getElem_cons_zero, List.getElem_cons_succ, Act.put, List.setIfInBounds_toArray, List.set_cons_zero, List.set_cons_succ]
              refine wpAnyH_take (i := 31) (v := undef) rfl (by kernel_rfl) (by kernel_rfl) (by kernel_rfl) (fun _ _ _ h => h) (Or.inr ⟨by rfl, rfl⟩) (by assumption) ?_
              try simp only [List.getElem_toArray, List.getElem_cons_zero, List.getElem_cons_succ, Act.put, List.setIfInBounds_toArray, List.set_cons_zero, List.set_cons_succ]
              refine wpAnyH_ready (rs := [32]) (by kernel_rfl) (by simp) ?_
              refine AllReadyH.cons rfl (fun K hK => ?_) AllReadyH.nil
              go_simp
              refine hK.out _ _ (KC.out _ BX.out) (fun hHeld => ?_)
              clear hK K
              try simp only [List.getElem_toArray, List.getElem_cons_zero, List.getElem_cons_succ, Act.put, List.setIfInBounds_toArray, List.set_cons_zero, List.set_cons_succ]
              refine wpAnyH_take (i := 33) (v := undef) rfl (by kernel_rfl) (by kernel_rfl) (by kernel_rfl) (fun _ _ _ h => h) (Or.inr ⟨by rfl, rfl⟩) (by assumption) ?_
              try simp only [List.getElem_toArray, List.getElem_cons_zero, List.getElem_cons_succ, Act.put, List.setIfInBounds_toArray, List.set_cons_zero, List.set_cons_succ]
              refine wpAnyH_take (i := 34) (v := ?_) rfl (by kernel_rfl) (by kernel_rfl) (by kernel_rfl) (fun _ _ _ h => h) (Or.inl ⟨by rfl, ?_⟩) (by assumption) ?_
              rotate_left
              · (intro w hSw; (try dsimp only at hSw); go_simp; (try with_reducible rfl))
              try simp only [List.getElem_toArray, List.getElem_cons_zero, List.getElem_cons_succ, Act.put, List.setIfInBounds_toArray, List.set_cons_zero, List.set_cons_succ]
              refine wpAnyH_take (i := 35) (v := ?_) rfl (by kernel_rfl) (by kernel_rfl) (by kernel_rfl) (fun _ _ _ h => h) (Or.inl ⟨by rfl, ?_⟩) (by assumption) ?_
              rotate_left
              · (intro w hSw; (try dsimp only at hSw); go_simp; (try with_reducible rfl))
              try simp only [List.getElem_toArray, List.getElem_cons_zero, List.getElem_cons_succ, Act.put, List.setIfInBounds_toArray, List.set_cons_zero, List.set_cons_succ]
              refine wpAnyH_done (by kernel_rfl) ?_ _
              go_wp2_with fail
              go_meet
              exact ⟨rfl, BX.out⟩
            · obtain ⟨e1, e2⟩ := put_bad (b := b) (fun h => hE (HE2.out.symm.trans h))
              have hn : ¬ E2 = 0 := hE
              have hn1 : ((E2 : Int) != 0) = true := by simpa using hE
              have hS : S2 = S := HS2.out.symm.trans e1
              have hb : b2 = b := HB2.out.symm.trans e2
              have HSb := Lib.hid (And.intro hS hb)
              clear hS hb e1 e2
              go_region_held3 (fun w' => ((w'.cell? ⟨w5.heap.size, 0, none⟩ = some (.string ⟨S.toArray⟩) ∧ w'.cell? ⟨w5.heap.size, 1, none⟩ = some (.slice A8 (pack b).length c8)) ∧ (w'.cell? ⟨w8.heap.size, 0, none⟩ = some (.string ⟨S2.toArray⟩) ∧ w'.cell? ⟨w8.heap.size, 1, none⟩ = some (.slice A10 (pack b2).length c10))))
                (first | exact KC.out _ BX.out | exact KC.out _ BD.out | exact KC.out _ B0.out)
                (first
                | (go_at_call 20; refine (refTGood_any A10 c10 w8.heap.size S2 (pack b2) _ (Nat.le_trans Z8.out.1 BD.out.size) (T10.out.below (BD.out.mono Z8.out.1))).mono ?_; rw [HG9.out]; rintro e wx ⟨rfl, bx⟩; have BX : Hid (Below w9.heap.size w9 wx) := BD.out.trans (bx.mono BD.out.size); clear bx)
                | (go_at_call 17; refine (stoLen_any (S9.out.fresh BX.out)).mono ?_; rintro e wx ⟨rfl, bx⟩; have BX : Hid (Below w9.heap.size w9 wx) := BX.out.trans (bx.mono BX.out.size); clear bx)
                | (go_at_call 18; refine (stoRoom_any (S9.out.fresh BX.out)).mono ?_; rintro e wx ⟨rfl, bx⟩; have BX : Hid (Below w9.heap.size w9 wx) := BX.out.trans (bx.mono BX.out.size); clear bx)
                | (go_at_call 13; refine (refTSame_any A10 A8 c10 c8 w8.heap.size w7.heap.size S2 S (pack b2) (pack b) _ (Nat.le_trans Z8.out.1 BX.out.size) (Nat.le_trans Z8.out.2 BX.out.size) (T10.out.below (BX.out.mono Z8.out.1)) (T8.out.below (BX.out.mono Z8.out.2))).mono ?_; rw [decide_eq_true ⟨HSb.out.1, by rw [HSb.out.2]⟩]; rintro e wx ⟨rfl, bx⟩; have BX : Hid (Below w9.heap.size w9 wx) := BX.out.trans (bx.mono BX.out.size); clear bx))
              all_goals
                go_wp2_with fail
                go_meet
                exact ⟨rfl, BX.out⟩
          case rest =>
            obtain ⟨rfl, BX⟩ := hcut
            have BX := Lib.hid BX
            obtain ⟨⟨y0, y1⟩, y2, y3⟩ := KC.out _ BX.out
            obtain ⟨c0, c1, c2, c3⟩ := act_cells (G79.out.below BX.out (by omega))
            have HPL : Hid (Plays w1 wc w1.heap.size N) := ⟨O7, S2, b2, S9.out.fresh BX.out, P7.out, BP9.out.trans (BX.out.mono (by omega))⟩
            by_cases hE : E2 = 0
            · subst hE
              obtain ⟨e1, e2, e3, e4, e5, e6, e7⟩ := put_done (b := b) HE2.out
              have hw1 := wrap_small (t - f) (by omega) (by omega)
              have hw2 := wrap_small ((S.length : Int) - (t - f)) (by omega) (by omega)
              have hw3 := wrap_small ((S.length : Int) - (t - f) + (X.length : Int)) (by omega) (by omega)
              have hq : ((S2.length : Int) == (S.length : Int) - (t - f) + (X.length : Int)) = true := by
                have hl2 : S2.length = f.toNat + X.length + (S.length - t.toNat) := by rw [← HS2.out, e1, List.length_append, List.length_append, List.length_take, List.length_drop]; omega
                simp only [beq_iff_eq]
                omega
              go_wp2_with fail
              go_roundw
              case rel => exact ⟨k + 1, by omega, by go_num, HPL.out⟩
              case measure => simp [intOf]; omega
            · have hn : ¬ (E2 : Int) = 0 := by omega
              go_wp2_with fail
              go_roundw
              case rel => exact ⟨k + 1, by omega, by go_num, HPL.out⟩
              case measure => simp [intOf]; omega
        · go_wp2_with (go_at_call 10; refine (lawFits_any X HTS.out.1 m HTS.out.2 A' c' _).mono ?_; rw [decide_eq_false hfit]; rintro e w4 ⟨rfl, b4⟩)
          go_roundw
          case rel => exact ⟨k + 1, by omega, by go_num, O, S, b, S3.out.fresh b4, o4, BP3.out.trans (b4.mono (by omega))⟩
          case measure => simp [intOf]; omega
      · have hout : (¬ (k : Int) < (acs.length : Int)) ∨ ((k : Int) < (acs.length : Int) ∧ ¬ (k : Int) < 50) := by omega
        rcases hout with hx | ⟨hx, hy⟩
        all_goals
          go_wp2_with fail
          go_ret
          exact ⟨rfl, BR.out⟩
  · by_cases h0 : n < 0
    all_goals
      have hd : (decide (n < 0) || decide (4096 < n)) = true := by
        by_cases h1 : n < 0
        · simp [h1]
        · have : 4096 < n := by omega
          simp [this]
      have HD := Lib.hid hd
      clear hd
      go_enter Try.func5, Try.ntmps5
      go_wp2_with (first
        | (go_at_call 8; refine (pieAlive_any _).mono ?_; rintro e w1 ⟨rfl, b1⟩)
        | (go_at_call 9; refine (pieNew_no n hr w1).mono ?_; rintro e w2 ⟨rfl, rfl⟩))
      go_ret
      exact ⟨by first | rfl | exact congrArg (fun b => Ending.returned (.bool b)) HD.out, b1⟩
end Go.Proofs.Ytacpfkkbjibmgaa

/-
  A store that no call made answers an error, and has nothing; what was handed in may be written over: layer 5.
-/
import Derived.Test.YtacpfkkbjibmgaaPieAlive
import Derived.Test.YtacpfkkbjibmgaaPieNob
import Derived.Test.YtacpfkkbjibmgaaPieApart
import Derived.Test.YtacpfkkbjibmgaaActOpen
import Derived.Deep.RegionHeld3
import Derived.Laws.OwnMore

namespace Go.Proofs.Ytacpfkkbjibmgaa
open Go.RowKit

theorem act_vals {w : World} {g : Nat} {T : TypeId} {a b c d e f : Value} (h : Blk w g T #[a, b, c, d, e, f]) : w.cell? ⟨g, 0, none⟩ = some a ∧ w.cell? ⟨g, 1, none⟩ = some b ∧ w.cell? ⟨g, 2, none⟩ = some c ∧ w.cell? ⟨g, 3, none⟩ = some d :=
  ⟨by have := h.cell 0; simpa using this, by have := h.cell 1; simpa using this, by have := h.cell 2; simpa using this, by have := h.cell 3; simpa using this⟩
theorem two_cells {w : World} {g T : Nat} {u v : Value} (h : Blk w g T #[u, v]) : w.cell? ⟨g, 0, none⟩ = some u ∧ w.cell? ⟨g, 1, none⟩ = some v :=
  ⟨by have := h.cell 0; simpa using this, by have := h.cell 1; simpa using this⟩

theorem row_two (w : World) (r T : Nat) (O : Nat → Prop) (hO : ¬ O r) (x y : Nat) (n k : Int) (hb : Blk w r T #[.int .u64 (x : Nat), .int .i64 n, .int .u64 (y : Nat), .int .i64 k]) : RowF w O (some ⟨r, 0, none⟩) (flatR [(x, n), (y, k)]) := by
  refine .inr ⟨_, rfl, hb.lt, hO, fun j u hj => ?_⟩
  have h0 : w.cell? ⟨r, 0, none⟩ = some (.int .u64 (x : Nat)) := by have := hb.cell 0; simpa using this
  have h1 : w.cell? ⟨r, 1, none⟩ = some (.int .i64 n) := by have := hb.cell 1; simpa using this
  have h2 : w.cell? ⟨r, 2, none⟩ = some (.int .u64 (y : Nat)) := by have := hb.cell 2; simpa using this
  have h3 : w.cell? ⟨r, 3, none⟩ = some (.int .i64 k) := by have := hb.cell 3; simpa using this
  match j, hj with
  | 0, hj => simp [flatR] at hj; subst hj; exact h0
  | 1, hj => simp [flatR] at hj; subst hj; exact h1
  | 2, hj => simp [flatR] at hj; subst hj; exact h2
  | 3, hj => simp [flatR] at hj; subst hj; exact h3
  | j + 4, hj => simp [flatR] at hj

set_option maxRecDepth 100000 in
set_option maxHeartbeats 4000000 in
theorem pieceNobody_walk (w : World) (a : ActP) (ha : ActOk w a) :
    Calls Try.prog 7 #[.agg a.cells.toArray] w fun e w' => e = .returned (.bool true) ∧ Below w.heap.size w w' := by
  have HTA := Lib.hid ha.txt
  clear ha
  obtain ⟨f, t, X, A', c', m, cu, fo⟩ := a
  dsimp only [ActP.cells] at *
  have B0 := Lib.hid ((Below.refl w.heap.size w).alloc (Nat.le_refl _) (.cells #[.int .i64 f, .int .i64 t, .string ⟨X.toArray⟩, .slice A' m.length c', .bool cu, .bool fo] 32))
  have Q0 := Lib.hid (Blk.new w 32 #[.int .i64 f, .int .i64 t, .string ⟨X.toArray⟩, .slice A' m.length c', .bool cu, .bool fo])
  go_enter Try.func7, Try.ntmps7
  go_upto_region 3 with (first
    | (go_at_call 8; refine (pieAlive_any _).mono ?_; rintro e w1 ⟨rfl, b1⟩))
  have z1 : w.heap.size + 1 ≤ w1.heap.size := by have := b1.size; simpa using this
  have B1 := Lib.hid (B0.out.trans (b1.mono (by simp)))
  have Q1 := Lib.hid (Q0.out.below b1 (by simp))
  clear b1 B0 Q0
  go_upto_region 4 with (fail)
  have hz2 : ((w1.alloc (.cells #[.bool false, .int .i64 0, .slice none 0 0, .slice none 0 0] 54)).alloc (.cells #[.pointer none, .pointer (some ⟨w1.heap.size, 0, none⟩)] 24)).heap.size = w1.heap.size + 2 := by simp
  have b2 : Below w1.heap.size w1 ((w1.alloc (.cells #[.bool false, .int .i64 0, .slice none 0 0, .slice none 0 0] 54)).alloc (.cells #[.pointer none, .pointer (some ⟨w1.heap.size, 0, none⟩)] 24)) := ((Below.refl _ w1).alloc (Nat.le_refl _) _).alloc (by simp) _
  have GZ : Hid (Blk ((w1.alloc (.cells #[.bool false, .int .i64 0, .slice none 0 0, .slice none 0 0] 54)).alloc (.cells #[.pointer none, .pointer (some ⟨w1.heap.size, 0, none⟩)] 24)) w1.heap.size 54 #[.bool false, .int .i64 0, .slice none 0 0, .slice none 0 0]) := (Blk.new w1 _ _).alloc _
  have GS : Hid (Blk ((w1.alloc (.cells #[.bool false, .int .i64 0, .slice none 0 0, .slice none 0 0] 54)).alloc (.cells #[.pointer none, .pointer (some ⟨w1.heap.size, 0, none⟩)] 24)) (w1.heap.size + 1) 24 #[.pointer none, .pointer (some ⟨w1.heap.size, 0, none⟩)]) := by
    have := Blk.new (w1.alloc (.cells #[.bool false, .int .i64 0, .slice none 0 0, .slice none 0 0] 54)) 24 #[.pointer none, .pointer (some ⟨w1.heap.size, 0, none⟩)]
    have e : (w1.alloc (.cells #[.bool false, .int .i64 0, .slice none 0 0, .slice none 0 0] 54)).heap.size = w1.heap.size + 1 := by simp
    rw [e] at this
    exact this
  generalize (w1.alloc (.cells #[.bool false, .int .i64 0, .slice none 0 0, .slice none 0 0] 54)).alloc (.cells #[.pointer none, .pointer (some ⟨w1.heap.size, 0, none⟩)] 24) = w2 at *
  have B2 := Lib.hid (B1.out.trans (b2.mono (by omega)))
  have Q2 := Lib.hid (Q1.out.below b2 (by omega))
  clear b2 B1 Q1
  go_loopw [17] (fun i wr => ∃ k : Nat, k ≤ 2 ∧ i = .int .i64 k ∧ Below w2.heap.size w2 wr) (fun i _ => 2 - (intOf i).toNat)
  case atStart => exact ⟨0, by omega, rfl, Below.refl _ _⟩
  case round =>
    obtain ⟨k, hk, rfl, hb⟩ := hrel
    have zr := hb.size
    have HB := Lib.hid hb
    have QR := Lib.hid (Q2.out.below hb (by omega))
    have BR := Lib.hid (B2.out.trans (hb.mono (by omega)))
    clear hb
    by_cases hlt : k < 2
    · obtain ⟨v, hv, hn⟩ : ∃ v, wr.cell? ⟨w1.heap.size + 1, k, none⟩ = some v ∧ Nob wr v := by
        have GSR := GS.out.below HB.out (by omega)
        have GZR := GZ.out.below HB.out (by omega)
        rcases (by omega : k = 0 ∨ k = 1) with rfl | rfl
        · exact ⟨_, (two_cells GSR).1, .inl rfl⟩
        · exact ⟨_, (two_cells GSR).2, .inr ⟨_, rfl, GZR⟩⟩
      have HN := Lib.hid hn
      clear hn
      obtain ⟨c0, c1, c2, c3⟩ := act_vals QR.out
      have HTR := Lib.hid (HTA.out.below BR.out)
      rcases (by omega : k = 0 ∨ k = 1) with rfl | rfl
      all_goals
        go_upto_region 7 with (go_at_call 11; refine (nobCut_any HN.out f t).mono ?_; rintro e w4 ⟨A4, c4, rfl, own4, b4⟩; dsimp only at own4 ⊢)
        have z4 := b4.size
        have hz5 : (w4.alloc (.cells #[.string ⟨#[]⟩, .slice A4 0 c4] 28)).heap.size = w4.heap.size + 1 := by simp
        have b5 : Below wr.heap.size wr (w4.alloc (.cells #[.string ⟨#[]⟩, .slice A4 0 c4] 28)) := b4.alloc z4 _
        have G5 := Lib.hid (txt_cells (Blk.new w4 28 #[.string ⟨#[]⟩, .slice A4 0 c4]))
        have T5 : Hid (Txt (w4.alloc (.cells #[.string ⟨#[]⟩, .slice A4 0 c4] 28)) w4.heap.size A4 [] []) := ⟨by simp, by intro r hr; simp at hr, by simp, (Row.of_own own4).below ((Below.refl _ _).alloc (Nat.le_refl _) _)⟩
        have G5b := Lib.hid (Blk.new w4 28 #[.string ⟨#[]⟩, .slice A4 0 c4])
        generalize w4.alloc (.cells #[.string ⟨#[]⟩, .slice A4 0 c4] 28) = w5 at *
        have N5 := Lib.hid (HN.out.below b5 (Nat.le_refl _))
        have B5 := Lib.hid (HB.out.trans (b5.mono zr))
        have Q5 := Lib.hid (QR.out.below b5 (by omega))
        have HT5 := Lib.hid (HTR.out.below (b5.mono (by omega)))
        clear b4 b5 own4 c0 c1 c2 c3
        obtain ⟨c0, c1, c2, c3⟩ := act_vals Q5.out
        have TN : ∀ w' : World, ∀ B, Txt w' B none [] [] := fun w' B => ⟨by simp, by intro r hr; simp at hr, by simp, .inl rfl⟩
        have HTN := Lib.hid TN
        clear TN
        go_wp2_with (first
          | (go_at_call 15; refine (nobPut_any N5.out f t _ _).mono ?_; rintro e w6 ⟨rfl, b6⟩; have z6 := b6.size; have N6 := Lib.hid (N5.out.below b6 (Nat.le_refl _)); have G6 := txt_cells (G5b.out.below b6 (by omega)); have x0 := G6.1; have x1 := G6.2; have T6 := Lib.hid (T5.out.below (b6.mono (by omega))); have B6 := Lib.hid (B5.out.trans (b6.mono (by omega))); clear b6 G6)
          | (go_at_call_of 13 A4; refine (refTSame_any A4 none c4 0 w4.heap.size w4.heap.size [] [] [] [] w6 (by omega) (by omega) T6.out (HTN.out _ _)).mono ?_; rw [decide_eq_true ⟨rfl, rfl⟩]; rintro e w7 ⟨rfl, b7⟩; have z7 := b7.size; have N7 := Lib.hid (N6.out.below b7 (Nat.le_refl _)); have B7 := Lib.hid (B6.out.trans (b7.mono (by omega))); clear b7 x0 x1)
          | (go_at_call 16; refine (nobText_any N7.out).mono ?_; rintro e w8 ⟨A8, c8, rfl, own8, b8⟩; have z8 := b8.size; have N8 := Lib.hid (N7.out.below b8 (Nat.le_refl _)); have B8 := Lib.hid (B7.out.trans (b8.mono (by omega))); have T8 : Hid (Txt w8 w8.heap.size A8 [] []) := ⟨by simp, by intro r hr; simp at hr, by simp, Row.of_own own8⟩; clear b8 own8)
          | (go_at_call_of 13 A8; refine (refTSame_any A8 none c8 0 w8.heap.size w8.heap.size [] [] [] [] w8 (by omega) (by omega) T8.out (HTN.out _ _)).mono ?_; rw [decide_eq_true ⟨rfl, rfl⟩]; rintro e w9 ⟨rfl, b9⟩; have z9 := b9.size; have N9 := Lib.hid (N8.out.below b9 (Nat.le_refl _)); have B9 := Lib.hid (B8.out.trans (b9.mono (by omega))); clear b9)
          | (go_at_call 17; refine (nobLen_any N9.out).mono ?_; rintro e w10 ⟨rfl, rfl⟩)
          | (go_at_call 18; refine (nobRoom_any N9.out).mono ?_; rintro e w10 ⟨rfl, rfl⟩)
          | (go_at_call 19; refine (nobCopy_any N9.out).mono ?_; rintro e w10 ⟨rfl, rfl⟩))
        go_roundw
        case rel => first | exact ⟨1, by omega, by go_num, B9.out⟩ | exact ⟨2, by omega, by go_num, B9.out⟩
        case measure => simp [intOf]
    · obtain rfl : k = 2 := by omega
      clear QR Q2 GS GZ
      have S9 : Hid (putE [] 9 0 0 [97, 98, 99] [(1, 2), (2, 1)] = 0 ∧ putS [] 9 0 0 [97, 98, 99] [(1, 2), (2, 1)] = [97, 98, 99] ∧ putB [] [] 9 0 0 [97, 98, 99] [(1, 2), (2, 1)] = [1, 1, 2] ∧ pack [1, 1, 2] = [(1, 2), (2, 1)]) := ⟨by decide +kernel, by decide +kernel, by decide +kernel, by decide +kernel⟩
      have F9 : Hid (Fits [(1, 2), (2, 1)]) := by intro r hr; simp at hr; rcases hr with rfl | rfl <;> simp
      go_wp2_with fail
      refine (stoNew_any 9 (by omega) wr).mono ?_
      rintro e w4 ⟨O4, rfl, b4, s4, o4⟩
      have z4 := b4.size
      go_upto_region 14 with (fail)
      have hz5 : (w4.alloc (.cells #[.int .u64 1, .int .i64 2, .int .u64 2, .int .i64 1] 58)).heap.size = w4.heap.size + 1 := by simp
      have b5 : Below wr.heap.size wr (w4.alloc (.cells #[.int .u64 1, .int .i64 2, .int .u64 2, .int .i64 1] 58)) := b4.alloc z4 _
      have G5 := Lib.hid (Blk.new w4 58 #[.int .u64 1, .int .i64 2, .int .u64 2, .int .i64 1])
      have S5 := Lib.hid (s4.fresh ((Below.refl w4.heap.size w4).alloc (Nat.le_refl _) (.cells #[.int .u64 1, .int .i64 2, .int .u64 2, .int .i64 1] 58)))
      have LT4 := Lib.hid s4.lt
      generalize w4.alloc (.cells #[.int .u64 1, .int .i64 2, .int .u64 2, .int .i64 1] 58) = w5 at *
      have R5 : Hid (RowF w5 O4 (some ⟨w4.heap.size, 0, none⟩) (flatR [(1, 2), (2, 1)])) := row_two w5 w4.heap.size 58 O4 (fun h => Nat.lt_irrefl _ (LT4.out _ h)) 1 2 2 1 G5.out
      go_upto_region 16 with (go_at_call 15; refine (stoPut_any S5.out (some ⟨w4.heap.size, 0, none⟩) 2 [97, 98, 99] [(1, 2), (2, 1)] 0 0 (by simp [maxLen]) F9.out (by simp [maxLen]) R5.out).mono ?_; rw [S9.out.1, S9.out.2.1, S9.out.2.2.1]; rintro e w6 ⟨O6, rfl, s6, p6, ch6⟩)
      have z6 := ch6.size
      have G6 := Lib.hid (G5.out.chg ch6 (fun h => Nat.lt_irrefl _ (LT4.out _ h)))
      have N6 : Hid (¬ O6 w4.heap.size) := fun h => (p6 _ h).elim (fun h => Nat.lt_irrefl _ (LT4.out _ h)) (fun h => by omega)
      have B6 : Hid (Below wr.heap.size wr w6) := b5.trans (ch6.below (by omega) o4)
      have S6 := Lib.hid s6
      clear s6 ch6 s4 b4 b5 G5 S5 R5
      have G6v : Hid (w6.cell? ⟨w4.heap.size, 0, none⟩ = some (.int .u64 1) ∧ w6.cell? ⟨w4.heap.size, 1, none⟩ = some (.int .i64 2)) := ⟨by have := G6.out.cell 0; simpa using this, by have := G6.out.cell 1; simpa using this⟩
      have x0 := G6v.out.1
      have x1 := G6v.out.2
      have x2 := G6.out.frozen 0
      have x3 := G6.out.frozen 1
      go_upto_region 17 with (fail)
      have hc7 := chg_set2 w6 w4.heap.size 0 1 (.int .u64 9) (.int .i64 9)
      generalize (w6.setCell ⟨w4.heap.size, 0, none⟩ (.int .u64 9)).setCell ⟨w4.heap.size, 1, none⟩ (.int .i64 9) = w7 at *
      have S7 := Lib.hid (S6.out.apart G6.out N6.out (noBytes_runs2 _ _ _ _) hc7)
      have B7 : Hid (Below wr.heap.size wr w7) := B6.out.trans (hc7.below (by omega) (fun k hk => by omega))
      have z7 := hc7.size
      clear hc7 S6 G6 x0 x1 x2 x3 B6
      go_upto_region 18 with (go_at_call 16; refine (stoText_any S7.out).mono ?_; rw [S9.out.2.2.2]; rintro e w8 ⟨A8, c8, rfl, own8, b8⟩)
      obtain ⟨g, rfl⟩ : ∃ g, A8 = some ⟨g, 0, none⟩ := by
        rcases own8.2 with ⟨_, h⟩ | ⟨g, cap, cur, h, _⟩
        · cases h
        · injection h with h1; exact ⟨g, h1⟩
      have hg8 := own8.lt g rfl
      have z8 := b8.size
      have b9 : Below w7.heap.size w7 (w8.alloc (.cells #[.string ⟨#[97, 98, 99]⟩, .slice (some ⟨g, 0, none⟩) 2 c8] 28)) := b8.alloc z8 _
      have G9 := Lib.hid (Blk.new w8 28 #[.string ⟨#[97, 98, 99]⟩, .slice (some ⟨g, 0, none⟩) 2 c8])
      have own9 : (w8.alloc (.cells #[.string ⟨#[97, 98, 99]⟩, .slice (some ⟨g, 0, none⟩) 2 c8] 28)).ownsRow w7.heap.size 58 2 (.slice (some ⟨g, 0, none⟩) 2 c8) 2 (flatR [(1, 2), (2, 1)]) := own8.alloc _
      have hz9 : (w8.alloc (.cells #[.string ⟨#[97, 98, 99]⟩, .slice (some ⟨g, 0, none⟩) 2 c8] 28)).heap.size = w8.heap.size + 1 := by simp
      generalize w8.alloc (.cells #[.string ⟨#[97, 98, 99]⟩, .slice (some ⟨g, 0, none⟩) 2 c8] 28) = w9 at *
      have own9' : ∃ xs, w9.ownsRow w7.heap.size 58 2 (.slice (some ⟨g, 0, none⟩) 2 c8) 2 xs := ⟨_, own9⟩
      obtain ⟨t0, t1⟩ := txt_cells G9.out
      go_wp2_with fail
      clear own8 own9 b8
      go_loopw [91] (fun i wx => ∃ k : Nat, k ≤ 2 ∧ i = .int .i64 k ∧ Below w7.heap.size w7 wx ∧ Blk wx w8.heap.size 28 #[.string ⟨#[97, 98, 99]⟩, .slice (some ⟨g, 0, none⟩) 2 c8] ∧ ∃ xs, wx.ownsRow w7.heap.size 58 2 (.slice (some ⟨g, 0, none⟩) 2 c8) 2 xs) (fun i _ => 2 - (intOf i).toNat)
      case atStart => exact ⟨0, by omega, rfl, b9, G9.out, own9'⟩
      case round =>
        clear b9 G9 own9' t0 t1
        obtain ⟨k, hk, rfl, hb, hblk, xs, hown⟩ := hrel
        have zx := hb.size
        by_cases hlt : k < 2
        · have hxs := hown.1
          obtain ⟨v0, v1, v2, v3, rfl⟩ : ∃ v0 v1 v2 v3, xs = [v0, v1, v2, v3] := by
            match xs, hxs with
            | [v0, v1, v2, v3], _ => exact ⟨_, _, _, _, rfl⟩
          have e0 := hown.cellAt 0 (by omega)
          have e1 := hown.cellAt 1 (by omega)
          have e2 := hown.cellAt 2 (by omega)
          have e3 := hown.cellAt 3 (by omega)
          simp at e0 e1 e2 e3
          have d0 := hown.frozenAt 0
          have d1 := hown.frozenAt 1
          have d2 := hown.frozenAt 2
          have d3 := hown.frozenAt 3
          obtain ⟨y0, y1⟩ := txt_cells hblk
          have HOW := Lib.hid hown
          have HBL := Lib.hid hblk
          have HBB := Lib.hid hb
          clear hown hblk hb
          have HST : Hid (∀ j u v, (Below w7.heap.size w7 ((wr.setCell ⟨g, j, none⟩ u).setCell ⟨g, j + 1, none⟩ v)) ∧ Blk ((wr.setCell ⟨g, j, none⟩ u).setCell ⟨g, j + 1, none⟩ v) w8.heap.size 28 #[.string ⟨#[97, 98, 99]⟩, .slice (some ⟨g, 0, none⟩) 2 c8] ∧ ∃ xs, ((wr.setCell ⟨g, j, none⟩ u).setCell ⟨g, j + 1, none⟩ v).ownsRow w7.heap.size 58 2 (.slice (some ⟨g, 0, none⟩) 2 c8) 2 xs) := fun j u v =>
            ⟨(HBB.out.setCell (p := ⟨g, j, none⟩) hg8.1 u).setCell (p := ⟨g, j + 1, none⟩) hg8.1 v, HBL.out.chg (chg_set2 wr g j (j + 1) u v) (by omega), _, ((HOW.out.stored j u).1.stored (j + 1) v).1⟩
          rcases (by omega : k = 0 ∨ k = 1) with rfl | rfl
          all_goals
            go_wp2_with fail
            go_roundw
            case rel => first | exact ⟨1, by omega, by go_num, HST.out 0 _ _⟩ | exact ⟨2, by omega, by go_num, HST.out 2 _ _⟩
            case measure => simp [intOf]
        · obtain rfl : k = 2 := by omega
          have S10 := Lib.hid (S7.out.fresh hb)
          have B10 : Hid (Below w.heap.size w wr) := BR.out.trans ((B7.out.trans (hb.mono (by omega))).mono (by omega))
          clear hb hblk hown S7
          go_wp2_with (first
            | (go_at_call 16; refine (stoText_any S10.out).mono ?_; rw [S9.out.2.2.2]; rintro e w11 ⟨A11, c11, rfl, own11, b11⟩; have z11 := b11.size; have T11 : Hid (Txt w11 w11.heap.size A11 [97, 98, 99] [(1, 2), (2, 1)]) := ⟨by simp [maxLen], F9.out, by simp [maxLen], Row.of_own own11⟩; have B12 : Hid (Below w.heap.size w (w11.alloc (.cells #[.int .u64 1, .int .i64 2, .int .u64 2, .int .i64 1] 58))) := (B10.out.trans (b11.mono (by omega))).alloc (by omega) _; have T12 : Hid (Txt (w11.alloc (.cells #[.int .u64 1, .int .i64 2, .int .u64 2, .int .i64 1] 58)) w11.heap.size A11 [97, 98, 99] [(1, 2), (2, 1)]) := T11.out.below ((Below.refl _ _).alloc (Nat.le_refl _) _); have R12 : Hid (Txt (w11.alloc (.cells #[.int .u64 1, .int .i64 2, .int .u64 2, .int .i64 1] 58)) (w11.alloc (.cells #[.int .u64 1, .int .i64 2, .int .u64 2, .int .i64 1] 58)).heap.size (some ⟨w11.heap.size, 0, none⟩) [97, 98, 99] [(1, 2), (2, 1)]) := ⟨by simp [maxLen], F9.out, by simp [maxLen], (row_two _ w11.heap.size 58 (fun _ => False) (fun h => h) 1 2 2 1 (Blk.new w11 _ _)).row⟩; clear own11 b11)
            | (go_at_call 13; refine (refTSame_any A11 (some ⟨w11.heap.size, 0, none⟩) c11 2 w11.heap.size _ [97, 98, 99] [97, 98, 99] [(1, 2), (2, 1)] [(1, 2), (2, 1)] _ (by simp) (Nat.le_refl _) T12.out R12.out).mono ?_; rw [decide_eq_true ⟨rfl, rfl⟩]; rintro e w13 ⟨rfl, b13⟩))
          go_ret
          exact ⟨rfl, B12.out.trans (b13.mono (by simp; omega))⟩
end Go.Proofs.Ytacpfkkbjibmgaa

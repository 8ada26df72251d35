/-
  ~ applied twice, and < behind >: layer 14, OperThere.
-/
import Derived.Test.YtgpmfkedcoiopaaGreatDoorM14e
import Derived.Test.YtgpmfkedcoiopaaGreatDoorM14d
import Derived.Test.YtgpmfkedcoiopaaGreatDoorOpLawB
namespace Go.Proofs.YtgpmfkedcoiopaaGreatDoor
open Go.RowKit
set_option maxRecDepth 100000
/-- a text stored into a variable, another block as it was -/
theorem text_var {w w2 : World} {gr g0 T0 c : Nat} {cs0 : Array Value} {A : Option Addr} {s0 v0 : Value} {V : List UInt8} {r : List RunP} (hb : Below w.heap.size w w2) (hg : Blk w2 gr 32 #[s0, v0]) (h1 : w.heap.size ≤ gr) (hx : Txu w2 A V r) (hn : NoLab #[s0, v0]) (h0 : Blk w2 g0 T0 cs0) (hne : g0 ≠ gr) :
    Grow ((w2.setCell ⟨gr, 0, none⟩ (.string ⟨V.toArray⟩)).setCell ⟨gr, 1, none⟩ (.slice A r.length c)) (fun w' => Blk w' g0 T0 cs0 ∧ Below w.heap.size w w' ∧ Txu w' A V r ∧ Blk w' gr 32 #[.string ⟨V.toArray⟩, .slice A r.length c]) := by
  have h := text_put (c := c) hb hg h1 hx hn
  have h3 : Blk ((w2.setCell ⟨gr, 0, none⟩ (.string ⟨V.toArray⟩)).setCell ⟨gr, 1, none⟩ (.slice A r.length c)) g0 T0 cs0 := (h0.far (p := ⟨gr, 0, none⟩) hne _).far (p := ⟨gr, 1, none⟩) hne _
  intro w' hw
  obtain ⟨k1, k2, k3⟩ := h w' hw
  exact ⟨h3.below hw h3.lt, k3, k2, k1⟩
set_option maxHeartbeats 16000000 in
theorem operThere_walk (w : World) (KS : OperSays w) (S : List UInt8) (A : Option Addr) (l : List RunP) (c y : Nat) (hy : y < 18446744073709551616) (op f t : Int) (hf : -9223372036854775808 ≤ f ∧ f ≤ 9223372036854775807) (ht : -9223372036854775808 ≤ t ∧ t ≤ 9223372036854775807) (b : Bool) (p n : Int) (X : List UInt8) (A2 : Option Addr) (m : List RunP) (c2 : Nat) (xb ah : Bool) (h : Txu w A S l) (hX : Txu w A2 X m) :
    Calls Tryz.prog 9 #[.agg (jobC S A l c y op f t b p n X A2 m c2 xb ah)] w fun e w' => e = .returned (.bool true) ∧ Below w.heap.size w w' := by
  have HS := Lib.hid KS
  have HFJ := Lib.hid (fun wx => lawFitsJ_any S A l c y op f t b p n X A2 m c2 xb ah hX.hS hX.hl wx)
  have HFT : Hid (fitsJ S l X m = true → S.length ≤ 5000 ∧ l.length ≤ 5000) := fun e => by
    unfold fitsJ at e
    simp only [Bool.and_eq_true, decide_eq_true_eq] at e
    omega
  have HAS : Hid (∀ wx, Below w.heap.size w wx → Txu wx A S l) := grow_txu h
  generalize fitsJ S l X m = fj at *
  go_enter Tryz.func9, Tryz.ntmps9
  go_upto_region 1 with fail
  change Code.wp _ _ _ _ (w.alloc (.cells (jobC S A l c y op f t b p n X A2 m c2 xb ah) 38))
  have b0 : Below w.heap.size w (w.alloc (.cells (jobC S A l c y op f t b p n X A2 m c2 xb ah) 38)) := (Below.refl _ _).alloc (Nat.le_refl _) _
  have Kj := grow_new w 38 (jobC S A l c y op f t b p n X A2 m c2 xb ah)
  have Kb : Grow (w.alloc (.cells (jobC S A l c y op f t b p n X A2 m c2 xb ah) 38)) (fun w' => Below w.heap.size w w') := fun w' hb => b0.trans (hb.mono b0.size)
  have K := Lib.hid (Kj.and Kb)
  clear Kj Kb b0 h hX KS
  generalize w.alloc (.cells (jobC S A l c y op f t b p n X A2 m c2 xb ah) 38) = wb at *
  go_upto_region 3 with (go_at_call 12; refine (aliveP_any _ (HS.out.at K.out.now.2)).mono ?_; rintro e w1 ⟨rfl, bb⟩; replace K := Lib.hid (K.out.step bb); clear bb)
  obtain ⟨x0, x1, x2, x3, x4, x5, x6, x7, x8, x9, x10, x11, x12⟩ := job_cells K.out.now.1
  cases fj with
  | false =>
    go_wp2_with (go_at_call 15; refine (HFJ.out _).mono ?_; rintro e w2 ⟨rfl, bb⟩; replace K := Lib.hid (K.out.step bb); clear bb)
    go_ret
    exact ⟨rfl, K.out.now.2⟩
  | true =>
    obtain ⟨l1, l2⟩ := HFT.out rfl
    go_upto_region 5 with (go_at_call 15; refine (HFJ.out _).mono ?_; rintro e w2 ⟨rfl, bb⟩; replace K := Lib.hid (K.out.step bb); clear bb x0 x1 x2 x3 x4 x5 x6 x7 x8 x9 x10 x11 x12; obtain ⟨x0, x1, x2, x3, x4, x5, x6, x7, x8, x9, x10, x11, x12⟩ := job_cells K.out.now.1)
    clear HFJ HFT
    by_cases h1 : (doM S l y 126 f t b).2 = 0
    · obtain ⟨U, hap, hgU, hd2, hap2⟩ := there_tog h1
      have HB1 := Lib.hid (fun wx (hb : Below w.heap.size w wx) => lawBehind_ok (c := c) (HS.out.at hb) hy (by decide) hf ht (HAS.out wx hb) l1 l2 h1 hap)
      have sU := good_small hgU
      have HB2 := Lib.hid (fun wx A5 c5 (hb : Below w.heap.size w wx) (hx : Txu wx A5 U l) => lawBehind_ok (c := c5) (HS.out.at hb) hy (by decide) hf ht hx sU.1 sU.2 hd2 hap2)
      clear h1 hap hgU hd2 hap2 sU
      go_upto_region 6 with (go_at_call 30; refine (HB1.out _ K.out.now.2).mono ?_; rintro e w3 ⟨A5, c5, rfl, hx, bb⟩; have hgn : w.heap.size < w3.heap.size := (K.out.step bb).now.1.lt; have K2 := Lib.hid ((((K.out.step bb).and (grow_txu hx)).alloc (.cells #[.string ⟨U.toArray⟩, .slice A5 l.length c5] 32)).and (grow_new w3 32 #[.string ⟨U.toArray⟩, .slice A5 l.length c5])); clear bb hx x0 x1 x2 x3 x4 x5 x6 x7 x8 x9 x10 x11 x12)
      generalize w3.heap.size = g3 at *
      generalize w3.alloc (.cells #[.string ⟨U.toArray⟩, .slice A5 l.length c5] 32) = w4 at *
      clear K HB1
      obtain ⟨x0, x1, x2, x3, x4, x5, x6, x7, x8, x9, x10, x11, x12⟩ := job_cells K2.out.now.1.1.1
      obtain ⟨y0, y1⟩ := txt_cells K2.out.now.2
      go_upto_region 8 with (go_at_call 30; refine (HB2.out _ A5 c5 K2.out.now.1.1.2 K2.out.now.1.2).mono ?_; rintro e w5 ⟨A6, c6, rfl, hx, bb⟩; have K3 := Lib.hid ((((K2.out.step bb).and (grow_txu hx)).alloc (.cells #[.string ⟨S.toArray⟩, .slice A6 l.length c6] 32)).and (grow_new w5 32 #[.string ⟨S.toArray⟩, .slice A6 l.length c6])); clear bb hx x0 x1 x2 x3 x4 x5 x6 x7 x8 x9 x10 x11 x12 y0 y1)
      generalize w5.heap.size = g5 at *
      generalize w5.alloc (.cells #[.string ⟨S.toArray⟩, .slice A6 l.length c6] 32) = w6 at *
      clear K2 HB2
      obtain ⟨x0, x1, x2, x3, x4, x5, x6, x7, x8, x9, x10, x11, x12⟩ := job_cells K3.out.now.1.1.1.1.1
      obtain ⟨y0, y1⟩ := txt_cells K3.out.now.2
      go_upto_region 10 with (go_at_call 27; refine (refTSame_any A6 A c6 c _ _ S S l l _ (Nat.le_refl _) (Nat.le_refl _) K3.out.now.1.2 (HAS.out _ K3.out.now.1.1.1.1.2)).mono ?_; rw [show decide (S = S ∧ l = l) = true from decide_eq_true ⟨rfl, rfl⟩]; rintro e wh ⟨rfl, bb⟩; replace K3 := Lib.hid (K3.out.step bb); clear bb x0 x1 x2 x3 x4 x5 x6 x7 x8 x9 x10 x11 x12 y0 y1; obtain ⟨x0, x1, x2, x3, x4, x5, x6, x7, x8, x9, x10, x11, x12⟩ := job_cells K3.out.now.1.1.1.1.1)
      have KJ : Hid (∃ (s5 : ByteArray) (B5 : Option Addr) (i5 j5 : Nat), Grow wh (fun w' => Blk w' w.heap.size 38 (jobC S A l c y op f t b p n X A2 m c2 xb ah) ∧ Below w.heap.size w w' ∧ Blk w' g3 32 #[.string s5, .slice B5 i5 j5])) := ⟨_, _, _, _, fun w' hb => ⟨(K3.out w' hb).1.1.1.1.1, (K3.out w' hb).1.1.1.1.2, (K3.out w' hb).1.1.2⟩⟩
      clear K3 x0 x1 x2 x3 x4 x5 x6 x7 x8 x9 x10 x11 x12
      obtain ⟨s5, B5, i5, j5, K⟩ := KJ.out
      have K := Lib.hid K
      clear KJ
      obtain ⟨x0, x1, x2, x3, x4, x5, x6, x7, x8, x9, x10, x11, x12⟩ := job_cells K.out.now.1
      cases b with
      | false =>
        go_wp2_with fail
        go_ret
        exact ⟨rfl, K.out.now.2.1⟩
      | true =>
        obtain ⟨v0, v1, v2, v3⟩ := txt_var K.out.now.2.2
        by_cases h2 : (doM S l y 62 f t true).2 = 0
        · obtain ⟨V, q, hap, hgU, hd2, hap2⟩ := there_sh h2
          have HB1 := Lib.hid (fun wx (hb : Below w.heap.size w wx) => lawBehind_ok (c := c) (HS.out.at hb) hy (by decide) hf ht (HAS.out wx hb) l1 l2 h2 hap)
          have sU := good_small hgU
          have HB2 := Lib.hid (fun wx A5 c5 (hb : Below w.heap.size w wx) (hx : Txu wx A5 V q) => lawBehind_ok (c := c5) (HS.out.at hb) hy (by decide) hf ht hx sU.1 sU.2 hd2 hap2)
          clear h2 hap hgU hd2 hap2 sU
          go_upto_region 14 with (go_at_call 30; refine (HB1.out _ K.out.now.2.1).mono ?_; rintro e w7 ⟨A7, c7, rfl, hx, bb⟩; replace K := Lib.hid (K.out.step bb); have HX := Lib.hid hx; clear bb hx x0 x1 x2 x3 x4 x5 x6 x7 x8 x9 x10 x11 x12 v0 v1 v2 v3; obtain ⟨v0, v1, v2, v3⟩ := txt_var K.out.now.2.2)
          have K4 := Lib.hid (text_var (c := c7) K.out.now.2.1 K.out.now.2.2 (by omega) HX.out noLab_text K.out.now.1 (by omega))
          clear K HX v0 v1 v2 v3
          generalize (w7.setCell ⟨g3, 0, none⟩ (.string ⟨V.toArray⟩)).setCell ⟨g3, 1, none⟩ (.slice A7 q.length c7) = w8 at *
          obtain ⟨x0, x1, x2, x3, x4, x5, x6, x7, x8, x9, x10, x11, x12⟩ := job_cells K4.out.now.1
          obtain ⟨y0, y1⟩ := txt_cells K4.out.now.2.2.2
          go_upto_region 15 with (go_at_call 30; refine (HB2.out _ A7 c7 K4.out.now.2.1 K4.out.now.2.2.1).mono ?_; rintro e w9 ⟨A8, c8, rfl, hx, bb⟩; have K5 := Lib.hid ((((K4.out.step bb).and (grow_txu hx)).alloc (.cells #[.string ⟨S.toArray⟩, .slice A8 l.length c8] 32)).and (grow_new w9 32 #[.string ⟨S.toArray⟩, .slice A8 l.length c8])); clear bb hx x0 x1 x2 x3 x4 x5 x6 x7 x8 x9 x10 x11 x12 y0 y1)
          generalize w9.heap.size = g9 at *
          generalize w9.alloc (.cells #[.string ⟨S.toArray⟩, .slice A8 l.length c8] 32) = wd at *
          clear K4 HB1 HB2
          obtain ⟨x0, x1, x2, x3, x4, x5, x6, x7, x8, x9, x10, x11, x12⟩ := job_cells K5.out.now.1.1.1
          obtain ⟨y0, y1⟩ := txt_cells K5.out.now.2
          go_wp2_with (go_at_call 27; refine (refTSame_any A8 A c8 c _ _ S S l l _ (Nat.le_refl _) (Nat.le_refl _) K5.out.now.1.2 (HAS.out _ K5.out.now.1.1.2.1)).mono ?_; rw [show decide (S = S ∧ l = l) = true from decide_eq_true ⟨rfl, rfl⟩]; rintro e wh ⟨rfl, bb⟩; replace K5 := Lib.hid (K5.out.step bb); clear bb)
          go_ret
          exact ⟨rfl, K5.out.now.1.1.2.1⟩
        · have HB1 := Lib.hid (fun wx (hb : Below w.heap.size w wx) => lawBehind_err (c := c) (HS.out.at hb) hy (by decide) hf ht (HAS.out wx hb) l1 l2 h2)
          clear h2
          go_wp2_with (go_at_call 30; refine (HB1.out _ K.out.now.2.1).mono ?_; rintro e w7 ⟨A7, c7, rfl, hx, bb⟩; replace K := Lib.hid (K.out.step bb); have HX := Lib.hid hx; clear bb hx x0 x1 x2 x3 x4 x5 x6 x7 x8 x9 x10 x11 x12 v0 v1 v2 v3; obtain ⟨v0, v1, v2, v3⟩ := txt_var K.out.now.2.2)
          have K4 := Lib.hid (text_var (c := c7) K.out.now.2.1 K.out.now.2.2 (by omega) HX.out noLab_text K.out.now.1 (by omega))
          go_ret
          exact ⟨rfl, K4.out.now.2.1⟩
    · have HB1 := Lib.hid (fun wx (hb : Below w.heap.size w wx) => lawBehind_err (c := c) (HS.out.at hb) hy (by decide) hf ht (HAS.out wx hb) l1 l2 h1)
      clear h1
      go_upto_region 10 with (go_at_call 30; refine (HB1.out _ K.out.now.2).mono ?_; rintro e w3 ⟨A5, c5, rfl, hx, bb⟩; have hgn : w.heap.size < w3.heap.size := (K.out.step bb).now.1.lt; have K2 := Lib.hid ((((K.out.step bb).and (grow_txu hx)).alloc (.cells #[.string ⟨S.toArray⟩, .slice A5 l.length c5] 32)).and (grow_new w3 32 #[.string ⟨S.toArray⟩, .slice A5 l.length c5])); clear bb hx x0 x1 x2 x3 x4 x5 x6 x7 x8 x9 x10 x11 x12)
      generalize w3.heap.size = g3 at *
      generalize w3.alloc (.cells #[.string ⟨S.toArray⟩, .slice A5 l.length c5] 32) = w4 at *
      clear K HB1
      have KJ : Hid (∃ (s5 : ByteArray) (B5 : Option Addr) (i5 j5 : Nat), Grow w4 (fun w' => Blk w' w.heap.size 38 (jobC S A l c y op f t b p n X A2 m c2 xb ah) ∧ Below w.heap.size w w' ∧ Blk w' g3 32 #[.string s5, .slice B5 i5 j5])) := ⟨_, _, _, _, fun w' hb => ⟨(K2.out w' hb).1.1.1, (K2.out w' hb).1.1.2, (K2.out w' hb).2⟩⟩
      clear K2
      obtain ⟨s5, B5, i5, j5, K⟩ := KJ.out
      have K := Lib.hid K
      clear KJ
      obtain ⟨x0, x1, x2, x3, x4, x5, x6, x7, x8, x9, x10, x11, x12⟩ := job_cells K.out.now.1
      cases b with
      | false =>
        go_wp2_with fail
        go_ret
        exact ⟨rfl, K.out.now.2.1⟩
      | true =>
        obtain ⟨v0, v1, v2, v3⟩ := txt_var K.out.now.2.2
        by_cases h2 : (doM S l y 62 f t true).2 = 0
        · obtain ⟨V, q, hap, hgU, hd2, hap2⟩ := there_sh h2
          have HB1 := Lib.hid (fun wx (hb : Below w.heap.size w wx) => lawBehind_ok (c := c) (HS.out.at hb) hy (by decide) hf ht (HAS.out wx hb) l1 l2 h2 hap)
          have sU := good_small hgU
          have HB2 := Lib.hid (fun wx A5 c5 (hb : Below w.heap.size w wx) (hx : Txu wx A5 V q) => lawBehind_ok (c := c5) (HS.out.at hb) hy (by decide) hf ht hx sU.1 sU.2 hd2 hap2)
          clear h2 hap hgU hd2 hap2 sU
          go_upto_region 14 with (go_at_call 30; refine (HB1.out _ K.out.now.2.1).mono ?_; rintro e w7 ⟨A7, c7, rfl, hx, bb⟩; replace K := Lib.hid (K.out.step bb); have HX := Lib.hid hx; clear bb hx x0 x1 x2 x3 x4 x5 x6 x7 x8 x9 x10 x11 x12 v0 v1 v2 v3; obtain ⟨v0, v1, v2, v3⟩ := txt_var K.out.now.2.2)
          have K4 := Lib.hid (text_var (c := c7) K.out.now.2.1 K.out.now.2.2 (by omega) HX.out noLab_text K.out.now.1 (by omega))
          clear K HX v0 v1 v2 v3
          generalize (w7.setCell ⟨g3, 0, none⟩ (.string ⟨V.toArray⟩)).setCell ⟨g3, 1, none⟩ (.slice A7 q.length c7) = w8 at *
          obtain ⟨x0, x1, x2, x3, x4, x5, x6, x7, x8, x9, x10, x11, x12⟩ := job_cells K4.out.now.1
          obtain ⟨y0, y1⟩ := txt_cells K4.out.now.2.2.2
          go_upto_region 15 with (go_at_call 30; refine (HB2.out _ A7 c7 K4.out.now.2.1 K4.out.now.2.2.1).mono ?_; rintro e w9 ⟨A8, c8, rfl, hx, bb⟩; have K5 := Lib.hid ((((K4.out.step bb).and (grow_txu hx)).alloc (.cells #[.string ⟨S.toArray⟩, .slice A8 l.length c8] 32)).and (grow_new w9 32 #[.string ⟨S.toArray⟩, .slice A8 l.length c8])); clear bb hx x0 x1 x2 x3 x4 x5 x6 x7 x8 x9 x10 x11 x12 y0 y1)
          generalize w9.heap.size = g9 at *
          generalize w9.alloc (.cells #[.string ⟨S.toArray⟩, .slice A8 l.length c8] 32) = wd at *
          clear K4 HB1 HB2
          obtain ⟨x0, x1, x2, x3, x4, x5, x6, x7, x8, x9, x10, x11, x12⟩ := job_cells K5.out.now.1.1.1
          obtain ⟨y0, y1⟩ := txt_cells K5.out.now.2
          go_wp2_with (go_at_call 27; refine (refTSame_any A8 A c8 c _ _ S S l l _ (Nat.le_refl _) (Nat.le_refl _) K5.out.now.1.2 (HAS.out _ K5.out.now.1.1.2.1)).mono ?_; rw [show decide (S = S ∧ l = l) = true from decide_eq_true ⟨rfl, rfl⟩]; rintro e wh ⟨rfl, bb⟩; replace K5 := Lib.hid (K5.out.step bb); clear bb)
          go_ret
          exact ⟨rfl, K5.out.now.1.1.2.1⟩
        · have HB1 := Lib.hid (fun wx (hb : Below w.heap.size w wx) => lawBehind_err (c := c) (HS.out.at hb) hy (by decide) hf ht (HAS.out wx hb) l1 l2 h2)
          clear h2
          go_wp2_with (go_at_call 30; refine (HB1.out _ K.out.now.2.1).mono ?_; rintro e w7 ⟨A7, c7, rfl, hx, bb⟩; replace K := Lib.hid (K.out.step bb); have HX := Lib.hid hx; clear bb hx x0 x1 x2 x3 x4 x5 x6 x7 x8 x9 x10 x11 x12 v0 v1 v2 v3; obtain ⟨v0, v1, v2, v3⟩ := txt_var K.out.now.2.2)
          have K4 := Lib.hid (text_var (c := c7) K.out.now.2.1 K.out.now.2.2 (by omega) HX.out noLab_text K.out.now.1 (by omega))
          go_ret
          exact ⟨rfl, K4.out.now.2.1⟩
end Go.Proofs.YtgpmfkedcoiopaaGreatDoor

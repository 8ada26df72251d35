/-
  The landed Invert: layer 7.
-/
import Derived.Test.YtfeaffabminpfaaEdiApply
namespace Go.Proofs.Ytfeaffabminpfaa
open Go.RowKit

theorem ed_five {w : World} {g T : Nat} {a b c d e : Value} (h : Blk w g T #[a, b, c, d, e]) {k : Nat} (hk : g ≠ k) (v x y z u : Value) :
    Blk (((((w.setCell ⟨k, 0, none⟩ v).setCell ⟨k, 1, none⟩ x).setCell ⟨k, 2, none⟩ y).setCell ⟨k, 3, none⟩ z).setCell ⟨k, 4, none⟩ u) g T #[a, b, c, d, e] :=
  ((((h.far (p := ⟨k, 0, none⟩) hk v).far (p := ⟨k, 1, none⟩) hk x).far (p := ⟨k, 2, none⟩) hk y).far (p := ⟨k, 3, none⟩) hk z).far (p := ⟨k, 4, none⟩) hk u
theorem five_cells {w : World} {g T : Nat} {a b c d e : Value} (h : Blk w g T #[a, b, c, d, e]) {k : Nat} (hk : g ≠ k) (v x y z u : Value) :
    (((((w.setCell ⟨k, 0, none⟩ v).setCell ⟨k, 1, none⟩ x).setCell ⟨k, 2, none⟩ y).setCell ⟨k, 3, none⟩ z).setCell ⟨k, 4, none⟩ u).cell? ⟨g, 0, none⟩ = some a ∧
    (((((w.setCell ⟨k, 0, none⟩ v).setCell ⟨k, 1, none⟩ x).setCell ⟨k, 2, none⟩ y).setCell ⟨k, 3, none⟩ z).setCell ⟨k, 4, none⟩ u).cell? ⟨g, 1, none⟩ = some b ∧
    (((((w.setCell ⟨k, 0, none⟩ v).setCell ⟨k, 1, none⟩ x).setCell ⟨k, 2, none⟩ y).setCell ⟨k, 3, none⟩ z).setCell ⟨k, 4, none⟩ u).cell? ⟨g, 2, none⟩ = some c ∧
    (((((w.setCell ⟨k, 0, none⟩ v).setCell ⟨k, 1, none⟩ x).setCell ⟨k, 2, none⟩ y).setCell ⟨k, 3, none⟩ z).setCell ⟨k, 4, none⟩ u).cell? ⟨g, 3, none⟩ = some d ∧
    (((((w.setCell ⟨k, 0, none⟩ v).setCell ⟨k, 1, none⟩ x).setCell ⟨k, 2, none⟩ y).setCell ⟨k, 3, none⟩ z).setCell ⟨k, 4, none⟩ u).cell? ⟨g, 4, none⟩ = some e := ed_cells (ed_five h hk v x y z u)
theorem belowE_dr {B : Nat} {a b : World} (h : Below B a b) : Below B a b.drew := h.drew
theorem Grow.own {w wx : World} {F : World → Prop} {A : Option Addr} {c g : Nat} {l : List RunP} (K : Grow wx F) (hg : g < w.heap.size) (h : wx.ownsRow w.heap.size 71 2 (.slice A l.length c) l.length (flatR l)) :
    Grow wx (fun w' => RowG w' (g + 1) A (flatR l) ∧ F w') := (grow_rowG ((rowG_own h).less hg)).and K

/-- a text copied, among others -/
theorem copied_in {wb : World} {g : Nat} {A : Option Addr} {c : Nat} {S : List UInt8} {l : List RunP} (hl : l.length ≤ 1000000) (hg : g < wb.heap.size) (hT : ∀ w', Below wb.heap.size wb w' → Txu w' A S l) :
    ∀ w', Below wb.heap.size wb w' → Calls Try.prog 50 #[.agg #[.string ⟨S.toArray⟩, .slice A l.length c]] w' fun e w'' => ∃ A' c', e = .returned (.agg #[.string ⟨S.toArray⟩, .slice A' l.length c']) ∧ Hid (Grow w'' (fun v => RowG v (g + 1) A' (flatR l))) ∧ Below wb.heap.size wb w'' ∧ Below w'.heap.size w' w'' := by
  intro w' hb
  refine (ediCopied_any A c S l hl w' (hT w' hb)).mono ?_
  rintro e w'' ⟨A', c', rfl, own, bb⟩
  have := hb.size
  exact ⟨A', c', rfl, grow_rowG ((rowG_own own).less (by omega)), hb.trans (bb.mono hb.size), bb⟩

set_option maxHeartbeats 2000000 in
theorem ediInvert_any (A A2 : Option Addr) (c d : Nat) (a : Int) (S : List UInt8) (l : List RunP) (X : List UInt8) (m : List RunP) (hl : l.length ≤ 1000000) (hm : m.length ≤ 1000000) (w : World) (h : Txu w A S l) (hX : Txu w A2 X m) :
    Calls Try.prog 32 #[.agg #[.int .i64 a, .string ⟨S.toArray⟩, .slice A l.length c, .string ⟨X.toArray⟩, .slice A2 m.length d]] w (GivesE1 w a X m S l) := by
  have BX := Lib.hid (boxesE2 w 34 34 #[.int .i64 a, .string ⟨S.toArray⟩, .slice A l.length c, .string ⟨X.toArray⟩, .slice A2 m.length d] #[.int .i64 0, .string ⟨#[]⟩, .slice none 0 0, .string ⟨#[]⟩, .slice none 0 0])
  have K := Lib.hid (BX.out.and (((grow_txu h).and (grow_txu hX)).step BX.out.now.2.2))
  clear h hX BX
  go_enter Try.func32, Try.ntmps32
  go_wp2_with fail
  generalize (w.alloc (.cells #[.int .i64 a, .string ⟨S.toArray⟩, .slice A l.length c, .string ⟨X.toArray⟩, .slice A2 m.length d] 34)).alloc (.cells #[.int .i64 0, .string ⟨#[]⟩, .slice none 0 0, .string ⟨#[]⟩, .slice none 0 0] 34) = wb at *
  have hb0 : Below wb.heap.size wb wb := Below.refl _ _
  have Z : Hid (w.heap.size + 1 < wb.heap.size) := K.out.now.1.2.1.lt
  have hne : Hid (w.heap.size ≠ w.heap.size + 1) := by show _ ≠ _; omega
  have TM := Lib.hid (copied_in (A := A2) (c := d) (S := X) hm Z.out (fun w' hb => (K.out w' hb).2.2))
  have TL := Lib.hid (copied_in (A := A) (c := c) (S := S) hl Z.out (fun w' hb => (K.out w' hb).2.1))
  have KB := Lib.hid (fun w' hb => ed_cells (K.out w' hb).1.1)
  go_region_held3 (fun w' => w'.cell? ⟨w.heap.size, 0, none⟩ = some (.int .i64 a) ∧ w'.cell? ⟨w.heap.size, 1, none⟩ = some (.string ⟨S.toArray⟩) ∧ w'.cell? ⟨w.heap.size, 2, none⟩ = some (.slice A l.length c) ∧ w'.cell? ⟨w.heap.size, 3, none⟩ = some (.string ⟨X.toArray⟩) ∧ w'.cell? ⟨w.heap.size, 4, none⟩ = some (.slice A2 m.length d))
    (first
      | (refine KB.out _ ?_; first | assumption | exact belowE_dr hb0)
      | (refine five_cells (K.out _ ?_).1.1 hne.out _ _ _ _ _; first | assumption | exact belowE_dr hb0))
    (first
      | (go_at_call_of 50 m; refine (TM.out _ ?_).mono ?_; (first | assumption | exact belowE_dr hb0); rintro e w4 ⟨A4, c4, rfl, rm, hbx, hby⟩; obtain ⟨⟨u0, u1, u2, u3, u4⟩, u5, u6, u7, u8, u9⟩ := ed_var (K.out _ hbx).1.2.1)
      | (go_at_call_of 50 l; refine (TL.out _ ?_).mono ?_; (first | assumption | exact belowE_dr hb0); rintro e w5 ⟨A5, c5, rfl, rl, hbx, hby⟩; obtain ⟨⟨u0, u1, u2, u3, u4⟩, u5, u6, u7, u8, u9⟩ := ed_var (K.out _ hbx).1.2.1))
  all_goals go_wp2
  all_goals
    have E := edit_end a (K.out _ hbx).1.2.2 (K.out _ hbx).1.2.1 (by omega) (A := A4) (A2 := A5) (l := m) (m := l) (s := ⟨X.toArray⟩) (x := ⟨S.toArray⟩) ((by first | exact rm.out.now | exact (rm.out.step hby).now : RowG _ _ A4 (flatR m)).toN (Nat.lt_succ_self _)) ((by first | exact rl.out.now | exact (rl.out.step hby).now : RowG _ _ A5 (flatR l)).toN (Nat.lt_succ_self _)) (.slice A4 m.length c4) (.slice A5 l.length c5)
    exact ret_edit1 rfl _ _ (w.heap.size + 1) _ _ _ _ _ rfl E.1 rfl ⟨A4, c4, A5, c5, rfl, E.2.1, E.2.2.1, E.2.2.2⟩
end Go.Proofs.Ytfeaffabminpfaa

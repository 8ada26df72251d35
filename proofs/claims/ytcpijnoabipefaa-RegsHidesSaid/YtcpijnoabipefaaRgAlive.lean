/-
  A text of one byte; answers that the document fixes: layer 9.
-/
import Derived.Test.YtcpijnoabipefaaRgDelete
namespace Go.Proofs.Ytcpijnoabipefaa
open Go.RowKit

/-- an entry of one byte, its run in new memory -/
def GivesO (w : World) (S : List UInt8) (e : Ending) (w' : World) : Prop :=
  ∃ g, e = .returned (.agg #[.string ⟨S.toArray⟩, .slice (some ⟨g, 0, none⟩) 1 1, .bool false]) ∧ w.heap.size ≤ g ∧ Blk w' g 58 #[.int .u64 (1 : Nat), .int .i64 1] ∧ Below w.heap.size w w'
set_option maxHeartbeats 1000000 in
theorem rgOne_any (S : List UInt8) (w : World) : Calls Try.prog 20 #[.string ⟨S.toArray⟩] w (GivesO w S) := by
  have K := Lib.hid (boxN w #[.string ⟨#[]⟩, .slice none 0 0, .bool false] 33)
  go_enter Try.func20, Try.ntmps20
  go_upto_region 1 with fail
  generalize w.alloc (.cells #[.string ⟨#[]⟩, .slice none 0 0, .bool false] 33) = wb at *
  obtain ⟨⟨y0, y1, y2⟩, f0, f1, f2⟩ := en_var K.out.now.1
  have hlt : w.heap.size < wb.heap.size := K.out.now.1.lt
  go_wp2_with fail
  refine ret_entry1 rfl _ _ w.heap.size _ _ _ rfl ((blk_three K.out.now.1 _ _ _).alloc _) rfl ?_
  have E := Blk.new (((wb.setCell ⟨w.heap.size, 0, none⟩ (.string ⟨S.toArray⟩)).setCell ⟨w.heap.size, 1, none⟩ (.slice (some ⟨wb.heap.size, 0, none⟩) 1 1)).setCell ⟨w.heap.size, 2, none⟩ (.bool false)) 58 #[.int .u64 1, .int .i64 1]
  have hb := below_three K.out.now.2 (Nat.le_refl _) (.string ⟨S.toArray⟩) (.slice (some ⟨wb.heap.size, 0, none⟩) 1 1) (.bool false)
  exact ⟨wb.heap.size, rfl, by omega, by simpa using E, hb.alloc hb.size _⟩
theorem txu_oneS {w : World} {g : Nat} {b : UInt8} (h : Blk w g 58 #[.int .u64 (1 : Nat), .int .i64 1]) : Txu w (some ⟨g, 0, none⟩) [b] [(1, 1)] :=
  ⟨by simp [maxLen], by intro r hr; simp at hr; subst hr; simp, by simp [maxLen], row_one w g _ 1 1 h⟩

def aliveR1 : List RegP × Nat := yankR newR 113 [101] [(1, 1)] false
def aliveR2 : List RegP × Nat := yankR aliveR1.1 81 [102] [(1, 1)] false
def aliveR3 : List RegP × Nat := deleteR aliveR2.1 0 [98] [(1, 1)] false true
theorem aliveR1_ok : aliveR1.2 = 0 := by decide +kernel
theorem aliveR2_ok : aliveR2.2 = 0 := by decide +kernel
theorem aliveR3_ok : aliveR3.2 = 0 := by decide +kernel
theorem alive_q : (getR aliveR3.1 113).2 = 0 ∧ (getR aliveR3.1 113).1.S = [101, 102] := by decide +kernel
theorem alive_n : (getR aliveR3.1 0).2 = 0 ∧ (getR aliveR3.1 0).1.S = [98] := by decide +kernel

theorem GivesR.ok0 {w w' : World} {P : Nat → Prop} {g : Nat} {r : List RegP × Nat} {e : Ending} (h : GivesR w P g r e w') (h0 : r.2 = 0) : e = .returned (.int .i64 0) ∧ Rgs w' P g r.1 ∧ Tch (fun k => k = g) w w' := by
  obtain ⟨h1, h2⟩ := h
  rw [h0] at h1
  exact ⟨h1, h2⟩
theorem GivesG.bytes {w w' : World} {r : RegP × Nat} {e : Ending} (h : GivesG w r e w') {S : List UInt8} (h0 : r.2 = 0 ∧ r.1.S = S) : ∃ A n c b, e = .returned (.tuple #[.agg #[.string ⟨S.toArray⟩, .slice A n c, .bool b], .int .i64 0]) ∧ Below w.heap.size w w' := by
  obtain ⟨A, c, rfl, _, hb⟩ := h
  rw [h0.1, h0.2]
  exact ⟨_, _, _, _, rfl, hb⟩
set_option maxRecDepth 100000 in
set_option maxHeartbeats 4000000 in
theorem aliveG_any (w : World) : Calls Try.prog 7 #[] w fun e w' => e = .returned (.bool true) ∧ Below w.heap.size w w' := by
  have HR1 := Lib.hid aliveR1_ok
  have HR2 := Lib.hid aliveR2_ok
  have HR3 := Lib.hid aliveR3_ok
  have HQ := Lib.hid alive_q
  have HN := Lib.hid alive_n
  go_enter Try.func7, Try.ntmps7
  go_upto_region 2 with (go_at_call 8; refine (rgNew_any w).mono ?_; rintro e w1 ⟨rfl, h1, b1, z1⟩; have H := Lib.hid h1; have B := Lib.hid b1; have Z := Lib.hid z1; clear h1 b1 z1)
  go_upto_region 5 with (first
    | (go_at_call_of 20 (101 : UInt8); refine (rgOne_any [101] _).mono ?_; rintro e w2 ⟨ga, rfl, _, hga, ba⟩; have X2 := Lib.hid (txu_oneS (b := 101) hga); have H2 := Lib.hid (H.out.fresh ba); have B2 := Lib.hid (B.out.trans (ba.mono B.out.size)); clear hga ba)
    | (go_at_call_of 19 (113 : Int); refine (rgYank_any H2.out 113 (by decide) _ 1 [101] [(1, 1)] false X2.out).mono ?_; intro e w3 hG; obtain ⟨rfl, hr, ht⟩ := GivesR.ok0 (r := aliveR1) hG HR1.out; clear hG; have H3 := Lib.hid hr; have B3 := Lib.hid (B2.out.trans (ht.below B2.out.size (fun k hk => by omega))); clear hr ht)
    | (go_at_call_of 20 (102 : UInt8); refine (rgOne_any [102] _).mono ?_; rintro e w4 ⟨gb, rfl, _, hgb, bb⟩; have X4 := Lib.hid (txu_oneS (b := 102) hgb); have H4 := Lib.hid (H3.out.fresh bb); have B4 := Lib.hid (B3.out.trans (bb.mono B3.out.size)); clear hgb bb)
    | (go_at_call_of 19 (81 : Int); refine (rgYank_any H4.out 81 (by decide) _ 1 [102] [(1, 1)] false X4.out).mono ?_; intro e w5 hG; obtain ⟨rfl, hr, ht⟩ := GivesR.ok0 (r := aliveR2) hG HR2.out; clear hG; have H5 := Lib.hid hr; have B5 := Lib.hid (B4.out.trans (ht.below B4.out.size (fun k hk => by omega))); clear hr ht)
    | (go_at_call_of 20 (98 : UInt8); refine (rgOne_any [98] _).mono ?_; rintro e w6 ⟨gc, rfl, _, hgc, bc⟩; have X6 := Lib.hid (txu_oneS (b := 98) hgc); have H6 := Lib.hid (H5.out.fresh bc); have B6 := Lib.hid (B5.out.trans (bc.mono B5.out.size)); clear hgc bc)
    | (go_at_call 10; refine (rgDelete_any H6.out 0 (by decide) _ 1 [98] [(1, 1)] false true X6.out).mono ?_; intro e w7 hG; obtain ⟨rfl, hr, ht⟩ := GivesR.ok0 (r := aliveR3) hG HR3.out; clear hG; have H7 := Lib.hid hr; have B7 := Lib.hid (B6.out.trans (ht.below B6.out.size (fun k hk => by omega))); clear hr ht)
    | (go_at_call 12; refine (rgGet_any H7.out 113 (by decide)).mono ?_; intro e w8 hG; obtain ⟨A8, n8, c8, b8, rfl, bd⟩ := GivesG.bytes hG HQ.out; clear hG; have H8 := Lib.hid (H7.out.fresh bd); have B8 := Lib.hid (B7.out.trans (bd.mono B7.out.size)); clear bd))
  have K8 := Lib.hid ((boxN w8 #[.string ⟨#[101, 102]⟩, .slice A8 n8 c8, .bool b8] 33).and ((H8.out.grow.and (grow_bel B8.out)).alloc _))
  generalize w8.alloc (.cells #[.string ⟨#[101, 102]⟩, .slice A8 n8 c8, .bool b8] 33) = wx at *
  go_upto_region 6 with (go_at_call 12; refine (rgGet_any K8.out.now.2.1 0 (by decide)).mono ?_; intro e w9 hG; obtain ⟨A9, n9, c9, b9, rfl, bd⟩ := GivesG.bytes hG HN.out; clear hG; replace K8 := Lib.hid (K8.out.step bd); clear bd)
  have K9 := Lib.hid ((boxN w9 #[.string ⟨#[98]⟩, .slice A9 n9 c9, .bool b9] 33).and (K8.out.alloc _))
  generalize w9.alloc (.cells #[.string ⟨#[98]⟩, .slice A9 n9 c9, .bool b9] 33) = wy at *
  obtain ⟨y0, y1, y2⟩ := en_cells K9.out.now.1.1
  obtain ⟨z0, z1, z2⟩ := en_cells K9.out.now.2.1.1
  go_wp2_with fail
  go_ret
  exact ⟨rfl, K9.out.now.2.2.2⟩
end Go.Proofs.Ytcpijnoabipefaa

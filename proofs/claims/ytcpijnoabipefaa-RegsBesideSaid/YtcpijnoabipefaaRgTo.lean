/-
  The landed toLetter: layer 9.
-/
import Derived.Test.YtcpijnoabipefaaRgCopy
namespace Go.Proofs.Ytcpijnoabipefaa
open Go.RowKit

/-- registers that a call left, and its answer -/
def GivesR (w : World) (P : Nat → Prop) (g : Nat) (r : List RegP × Nat) (e : Ending) (w' : World) : Prop :=
  e = .returned (.int .i64 (r.2 : Nat)) ∧ Rgs w' P g r.1 ∧ Tch (fun k => k = g) w w'
theorem blk_twoI (w : World) (p q : Nat) : Blk (w.alloc (.cells #[.int .i64 (p : Nat), .int .i64 (q : Nat)] 3)) w.heap.size 3 #[.int .i64 (p : Nat), .int .i64 (q : Nat)] := Blk.new _ _ _
/-- an entry stored in two registers, the list of which is new -/
theorem store_two {P : Nat → Prop} {w : World} {g : Nat} {R : List RegP} {A : Option Addr} {c : Nat} {S : List UInt8} {l : List RunP} {b : Bool} (h : Rgs w P g R) (hx : Txu w A S l) (hg : goodT S l = true) (p q : Nat) (hp : p < 38) (hq : q < 38) :
    Calls Try.prog 23 #[.pointer (some ⟨g, 0, none⟩), .agg #[.string ⟨S.toArray⟩, .slice A l.length c, .bool b], .slice (some ⟨w.heap.size, 0, none⟩) 2 2] (w.alloc (.cells #[.int .i64 (p : Nat), .int .i64 (q : Nat)] 3)) fun e w' => e = .returned (.tuple #[]) ∧ Rgs w' P g (put2 R p q ⟨true, S, l, b⟩) ∧ Tch (fun k => k = g) w w' := by
  have hb : Below w.heap.size w (w.alloc (.cells #[.int .i64 (p : Nat), .int .i64 (q : Nat)] 3)) := (Below.refl _ _).alloc (Nat.le_refl _) _
  refine (rgStore_any (h.fresh hb) A c S l b (grow_txu hx _ hb) hg (by have := (goodT_runs hg).2; omega) w.heap.size p q (by have := h.tch; omega) hp hq (blk_twoI w p q)).mono ?_
  rintro e w' ⟨rfl, h1, h2⟩
  exact ⟨rfl, h1, (Tch.fresh hb).trans h2⟩
theorem blk_threeS {w : World} {g T : Nat} {a b c : Value} (h : Blk w g T #[a, b, c]) (x y z : Value) : Blk (((w.setCell ⟨g, 0, none⟩ x).setCell ⟨g, 1, none⟩ y).setCell ⟨g, 2, none⟩ z) g T #[x, y, z] := blk_three h x y z

theorem OkT.txs {r : (List UInt8 × List RunP) × Nat} (h : OkT r) : r.1.1.length ≤ maxLen ∧ Fits r.1.2 ∧ r.1.2.length ≤ maxLen := ⟨by have := h.1; unfold maxLen; omega, h.2.1, h.2.2⟩

set_option maxHeartbeats 4000000 in
theorem rgTo_any {P : Nat → Prop} {w : World} {g : Nat} {R : List RegP} (h : Rgs w P g R) (n : Int) (hn : -2147483648 ≤ n ∧ n ≤ 2147483647) (hln : letN n = true) (A : Option Addr) (c : Nat) (S : List UInt8) (l : List RunP) (b : Bool) (hx : Txu w A S l) (hg : goodT S l = true) :
    Calls Try.prog 34 #[.pointer (some ⟨g, 0, none⟩), .int .i32 n, .agg #[.string ⟨S.toArray⟩, .slice A l.length c, .bool b]] w (GivesR w P g (letterR R n S l b)) := by
  have K := Lib.hid ((boxN w #[.string ⟨S.toArray⟩, .slice A l.length c, .bool b] 33).and (((grow_txu hx).and h.grow).alloc _))
  have hok := Lib.hid h.ok
  have hP := Lib.hid h.lt
  have hf := Lib.hid hx.hf
  have H0 := Lib.hid h
  clear h hx
  obtain ⟨p, hp, hp25⟩ : ∃ p : Nat, plN n = (p : Int) ∧ p ≤ 25 := by have := plN_let hln; exact ⟨(plN n).toNat, by omega, by omega⟩
  go_enter Try.func34, Try.ntmps34
  go_upto_region 1 with fail
  generalize w.alloc (.cells #[.string ⟨S.toArray⟩, .slice A l.length c, .bool b] 33) = wb at *
  obtain ⟨⟨y0, y1, y2⟩, f0, f1, f2⟩ := en_var K.out.now.1.1
  by_cases hc : capN n = true
  · have hx0 : (0 : Int) ≤ (p : Int) := by omega
    have hx1 : (p : Int) < 38 := by omega
    obtain ⟨A1, c1, G⟩ := K.out.now.2.2.one (i := p) (by omega)
    have hro := Lib.hid (atR_ok hok.out (i := p) (by omega))
    have HL : Hid (letterR R n S l b = if (catT (atR R p).S (atR R p).l S l).2 = 0 then (put2 R p 37 ⟨true, (catT (atR R p).S (atR R p).l S l).1.1, (catT (atR R p).S (atR R p).l S l).1.2, (atR R p).lines || b⟩, 0) else (R, (catT (atR R p).S (atR R p).l S l).2)) := by
      show _ = _
      unfold letterR; rw [if_pos hc, hp, Int.toNat_natCast]
    generalize atR R p = r at *
    obtain ⟨⟨z0, z1, z2, z3⟩, zt⟩ := G.now
    clear zt z0
    have hltb : w.heap.size < wb.heap.size := K.out.now.1.1.lt
    have K2 := Lib.hid ((boxN wb #[.string ⟨r.S.toArray⟩, .slice A1 r.l.length c1, .bool r.lines] 33).and ((K.out.and G).alloc _))
    go_upto_region 4 with (first
      | (go_at_call 27; refine (rgPlace_any n hn _).mono ?_; rw [hp]; rintro e w' ⟨rfl, hw⟩; subst w')
      | (go_at_call 37; refine (rgCapital_any n _).mono ?_; rw [hc]; rintro e w' ⟨rfl, hw⟩; subst w'))
    clear y0 y1 y2 f0 f1 f2 z1 z2 z3 K G
    generalize wb.alloc (.cells #[.string ⟨r.S.toArray⟩, .slice A1 r.l.length c1, .bool r.lines] 33) = wc at *
    obtain ⟨⟨y0, y1, y2⟩, f0, f1, f2⟩ := en_var K2.out.now.2.1.1.1
    obtain ⟨z0, z1, z2⟩ := en_cells K2.out.now.1.1
    have hcg : Hid ((catT r.S r.l S l).2 = 0 → goodT (catT r.S r.l S l).1.1 (catT r.S r.l S l).1.2 = true) := fun h => catT_good h
    have hcf : Hid (OkT (catT r.S r.l S l)) := okT_cat hro.out.2.1 hf.out
    have HC : Hid (∀ wz, Txu wz A1 r.S r.l → Txu wz A S l → Calls Try.prog 40 #[.agg #[.string ⟨r.S.toArray⟩, .slice A1 r.l.length c1], .agg #[.string ⟨S.toArray⟩, .slice A l.length c]] wz fun e w' => ∃ A3 c3, e = .returned (.tuple #[.agg #[.string ⟨(catT r.S r.l S l).1.1.toArray⟩, .slice A3 (catT r.S r.l S l).1.2.length c3], .int .i64 ((catT r.S r.l S l).2 : Nat)]) ∧ RowG w' wz.heap.size A3 (flatR (catT r.S r.l S l).1.2) ∧ Below wz.heap.size wz w') := by
      show ∀ wz, _
      intro wz h1 h2
      refine (stpCat_any A1 A c1 c _ _ r.S S r.l l _ (Nat.le_refl _) (Nat.le_refl _) h1 h2).mono ?_
      rintro e w' ⟨A3, c3, rfl, own, bb⟩
      exact ⟨A3, c3, rfl, rowG_own own, bb⟩
    obtain ⟨V, hV⟩ : ∃ v, catT r.S r.l S l = v := ⟨_, rfl⟩
    obtain ⟨⟨S3, l3⟩, k3⟩ := V
    rw [hV] at HL hcg hcf HC
    dsimp only at HL hcg hcf HC
    clear hV
    have hzc : w.heap.size < wc.heap.size ∧ g < wc.heap.size := ⟨K2.out.now.2.1.1.1.lt, K2.out.now.2.1.2.2.tch⟩
    go_upto_region 5 with (go_at_call 40; refine (HC.out _ K2.out.now.2.2.2.txu K2.out.now.2.1.2.1).mono ?_; rintro e w3 ⟨A3, c3, rfl, own3, bb⟩; replace K2 := Lib.hid (K2.out.step bb); have O3 := Lib.hid own3; clear own3 bb)
    have K3 := Lib.hid ((boxN w3 #[.string ⟨S3.toArray⟩, .slice A3 l3.length c3] 29).and (((grow_rowG O3.out).and K2.out).alloc _))
    clear y0 y1 y2 f0 f1 f2 z0 z1 z2 K2 O3
    generalize w3.alloc (.cells #[.string ⟨S3.toArray⟩, .slice A3 l3.length c3] 29) = wd at *
    by_cases h0 : k3 = 0
    · subst h0
      rw [if_pos rfl] at HL
      obtain ⟨⟨y0, y1, y2⟩, f0, f1, f2⟩ := en_var K3.out.now.2.2.2.1.1.1
      obtain ⟨z0, z1, z2⟩ := en_cells K3.out.now.2.2.1.1
      obtain ⟨x0, x1⟩ := pair_cells K3.out.now.1.1
      generalize r.lines = rb at *
      cases rb with
      | true =>
        go_upto_region 8 with fail
        have B4 := Lib.hid (blk_three K3.out.now.2.2.2.1.1.1 (.string ⟨S3.toArray⟩) (.slice A3 l3.length c3) (.bool true))
        have W4 := Lib.hid (below_three K3.out.now.2.2.2.1.1.2 (Nat.le_refl _) (.string ⟨S3.toArray⟩) (.slice A3 l3.length c3) (.bool true))
        have O4 := Lib.hid (K3.out.now.2.1.three hzc.1 (.string ⟨S3.toArray⟩) (.slice A3 l3.length c3) (.bool true))
        clear y0 y1 y2 f0 f1 f2 z0 z1 z2 x0 x1 K3
        generalize ((wd.setCell ⟨w.heap.size, 0, none⟩ (.string ⟨S3.toArray⟩)).setCell ⟨w.heap.size, 1, none⟩ (.slice A3 l3.length c3)).setCell ⟨w.heap.size, 2, none⟩ (.bool true) = we at *
        obtain ⟨y0, y1, y2⟩ := en_cells B4.out
        have HX : Hid (Txu we A3 S3 l3) := ⟨hcf.out.txs.1, hcf.out.txs.2.1, hcf.out.txs.2.2, O4.out.row⟩
        go_wp2_with (go_at_call 23; refine (store_two (c := c3) (b := true) (H0.out.fresh W4.out) HX.out (hcg.out rfl) p 37 (by omega) (by omega)).mono ?_; rintro e w5 ⟨rfl, hr, ht⟩)
        go_ret
        exact ⟨by rw [HL.out]; rfl, by rw [HL.out]; exact hr, (Tch.fresh W4.out).trans ht⟩
      | false =>
        go_upto_region 8 with fail
        have B4 := Lib.hid (blk_three K3.out.now.2.2.2.1.1.1 (.string ⟨S3.toArray⟩) (.slice A3 l3.length c3) (.bool b))
        have W4 := Lib.hid (below_three K3.out.now.2.2.2.1.1.2 (Nat.le_refl _) (.string ⟨S3.toArray⟩) (.slice A3 l3.length c3) (.bool b))
        have O4 := Lib.hid (K3.out.now.2.1.three hzc.1 (.string ⟨S3.toArray⟩) (.slice A3 l3.length c3) (.bool b))
        clear y0 y1 y2 f0 f1 f2 z0 z1 z2 x0 x1 K3
        generalize ((wd.setCell ⟨w.heap.size, 0, none⟩ (.string ⟨S3.toArray⟩)).setCell ⟨w.heap.size, 1, none⟩ (.slice A3 l3.length c3)).setCell ⟨w.heap.size, 2, none⟩ (.bool b) = we at *
        obtain ⟨y0, y1, y2⟩ := en_cells B4.out
        have HX : Hid (Txu we A3 S3 l3) := ⟨hcf.out.txs.1, hcf.out.txs.2.1, hcf.out.txs.2.2, O4.out.row⟩
        go_wp2_with (go_at_call 23; refine (store_two (c := c3) (b := b) (H0.out.fresh W4.out) HX.out (hcg.out rfl) p 37 (by omega) (by omega)).mono ?_; rintro e w5 ⟨rfl, hr, ht⟩)
        go_ret
        exact ⟨by rw [HL.out]; rfl, by rw [HL.out]; exact hr, (Tch.fresh W4.out).trans ht⟩
    · have hk : (((k3 : Nat) : Int) != 0) = true := by simpa using h0
      rw [if_neg h0] at HL
      clear h0
      go_wp2_with fail
      go_ret
      exact ⟨by rw [HL.out]; rfl, by rw [HL.out]; exact K3.out.now.2.2.2.1.2.2, Tch.fresh K3.out.now.2.2.2.1.1.2⟩
  · have hc' : capN n = false := by simpa using hc
    have HR : Hid (letterR R n S l b = (put2 R p 37 ⟨true, S, l, b⟩, 0)) := by
      show _ = _
      unfold letterR; rw [if_neg hc, hp, Int.toNat_natCast]
    clear hc
    go_wp2_with (first
      | (go_at_call 27; refine (rgPlace_any n hn _).mono ?_; rw [hp]; rintro e w' ⟨rfl, hw⟩; subst w')
      | (go_at_call 37; refine (rgCapital_any n _).mono ?_; rw [hc']; rintro e w' ⟨rfl, hw⟩; subst w')
      | (go_at_call 23; refine (store_two (c := c) (b := b) K.out.now.2.2 K.out.now.2.1 hg p 37 (by omega) (by omega)).mono ?_; rintro e w3 ⟨rfl, hr, ht⟩))
    go_ret
    exact ⟨by rw [HR.out]; rfl, by rw [HR.out]; exact hr, (Tch.fresh K.out.now.1.2).trans ht⟩
end Go.Proofs.Ytcpijnoabipefaa

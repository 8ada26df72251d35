/-
  An entry stored in registers: layer 9.
-/
import Derived.Test.YtcpijnoabipefaaRgCopied
import Derived.StillTailTactics
namespace Go.Proofs.Ytcpijnoabipefaa
open Go.RowKit

section
variable {P : Program}
/-- many cells stored in the middle of a block that is known whole -/
theorem wpList_storeAt {ops : Array Oper} {rest : List Oper} {o : Oper} {a : Act} {w : World} {Q : Exit → Act → World → Prop} (hgd : o.guard = none) (ty : TypeId) (x y : Operand) (ho : o.op = .store ty x y)
    (g off : Nat) (cs : List Value) (hx : a.eval x = .pointer (some ⟨g, off, none⟩)) (hy : a.eval y = .agg cs.toArray)
    (t : TypeId) (L : List Value) (hg : Blk w g t L.toArray) (hi : (P.info? ty).map (·.size) = some cs.length) (hfit : off + cs.length ≤ L.length) (h1 : ∀ v ∈ cs, v.oneCell' = true)
    (h : wpList P ops Q rest (a.put o.dst undef) (w.setRow g (splice L off cs).toArray)) : wpList P ops Q (o :: rest) a w := by
  refine wpList_plain hgd fun K hK => ?_
  have hst := run_storeCells_at P g off t cs 0 L.toArray w hg (by simpa using hfit) h1
  have hrun : (storeVar ty ⟨g, off, none⟩ (.agg cs.toArray)).run P w = .ok () (w.setRow g (splice L off cs).toArray) := by
    cases hq : P.info? ty with
    | none => simp [hq] at hi
    | some i =>
      have hs : cs.length = i.size := by simp [hq] at hi; omega
      simp only [Nat.add_zero, List.append_assoc] at hst
      simp [storeVar, sizeOf, typeInfo, hq, Value.cells, hs, hst, splice]
  unfold Oper.wp execOp
  simp only [ho, hx, hy, Instr.storeAt, Instr.sureAddr, Sem.run_bind, Sem.run_pure, Result.andThen_ok, hrun]
  exact hK _ _ h
end
section
variable {P : Nat → Prop} {w w' : World} {g : Nat} {R : List RegP}
/-- one register is another one -/
theorem Rgs.set (h : Rgs w P g R) (p : Nat) (hp : p < 38) (r : RegV) (hr : r.reg.ok) (hx : TxO w P r.A r.S r.l) : ∃ L : List Value, Blk w g 53 L.toArray ∧ L.length = 153 ∧ Rgs (w.setRow g (splice L (1 + p * 4) r.cells).toArray) P g (R.set p r.reg) := by
  obtain ⟨Z, h1, h2, h3⟩ := h.mem
  have hz : Z.length = 38 := by have := h.ok.len; rw [← h1, List.length_map] at this; exact this
  refine ⟨_, h2, by rw [List.length_cons, flatG_len, hz], ⟨by rw [List.length_set]; exact h.ok.len, fun x hx => ?_⟩, h.own, fun k hk => by have := h.lt k hk; simpa using this, Z.set p r, ?_, ?_, ?_⟩
  · rcases List.mem_or_eq_of_mem_set hx with hx | rfl
    · exact h.ok.ok x hx
    · exact hr
  · rw [List.map_set, h1]
  · rw [flatG_set Z p r (by omega)]
    exact h2.setRow _
  · have ht : Tch P w (w.setRow g (splice (.bool true :: flatG Z) (1 + p * 4) r.cells).toArray) := (Tch.grown (grown_setRow w g _)).more (fun k e => by rw [e]; exact h.own)
    intro z hz
    rcases List.mem_or_eq_of_mem_set hz with hz | rfl
    · exact (h3 z hz).tch ht
    · exact hx.tch ht
end
theorem four_cells {w : World} {g T : Nat} {a b c d : Value} (h : Blk w g T #[a, b, c, d]) : w.cell? ⟨g, 0, none⟩ = some a ∧ w.cell? ⟨g, 1, none⟩ = some b ∧ w.cell? ⟨g, 2, none⟩ = some c ∧ w.cell? ⟨g, 3, none⟩ = some d :=
  ⟨by have := h.cell 0; simpa using this, by have := h.cell 1; simpa using this, by have := h.cell 2; simpa using this, by have := h.cell 3; simpa using this⟩
/-- two registers, one behind the other -/
def setK (R : List RegP) (p q : Nat) (x : RegP) : Nat → List RegP
  | 0 => R
  | 1 => R.set p x
  | _ => put2 R p q x
theorem regV_one (r : RegV) : ∀ u ∈ r.cells, u.oneCell' = true := by
  intro u hu
  simp [RegV.cells] at hu
  rcases hu with rfl | rfl | rfl | rfl <;> rfl
theorem store_txo {P : Nat → Prop} {w4 wd : World} {g B : Nat} {R : List RegP} {A : Option Addr} {S : List UInt8} {l : List RunP} (ht : Tch (fun k => k = g) w4 wd) (hr : Rgs wd P g R) (hx : S.length ≤ maxLen ∧ Fits l) (hl : l.length ≤ 1000000) (ho : RowG w4 B A (flatR l)) (hB : ∀ k, P k → k < B) : TxO wd P A S l :=
  ⟨hx.1, hx.2, by unfold maxLen; omega, (RowO.of_rowG ho (fun k hk hp => by have := hB k hp; omega)).tch (ht.more (fun k e => by rw [e]; exact hr.own))⟩
set_option maxHeartbeats 4000000 in
theorem rgStore_any {P : Nat → Prop} {w : World} {g : Nat} {R : List RegP} (h : Rgs w P g R) (A : Option Addr) (c : Nat) (S : List UInt8) (l : List RunP) (b : Bool) (hx : Txu w A S l) (hg : goodT S l = true) (hl : l.length ≤ 1000000) (gs p q : Nat) (hsg : gs ≠ g) (hp : p < 38) (hq : q < 38) (hs : Blk w gs 3 #[.int .i64 (p : Nat), .int .i64 (q : Nat)]) :
    Calls Try.prog 23 #[.pointer (some ⟨g, 0, none⟩), .agg #[.string ⟨S.toArray⟩, .slice A l.length c, .bool b], .slice (some ⟨gs, 0, none⟩) 2 2] w fun e w' => e = .returned (.tuple #[]) ∧ Rgs w' P g (put2 R p q ⟨true, S, l, b⟩) ∧ Tch (fun k => k = g) w w' := by
  have hf := hx.hf
  have GR : Grow w (fun w' => Rgs w' P g R) := fun w' hb => h.fresh hb
  have K := Lib.hid ((boxN w #[.string ⟨S.toArray⟩, .slice A l.length c, .bool b] 33).and (((grow_txu hx).and (GR.and (grow_blk hs))).alloc _))
  have Z0 := Lib.hid h.tch
  have Z1 := Lib.hid hs.lt
  have XK := Lib.hid (And.intro hx.hS hx.hf)
  have hK3 := Lib.hid (show ∀ k, P k → k < (w.alloc (.cells #[.string ⟨S.toArray⟩, .slice A l.length c, .bool b] 33)).heap.size from fun k hk => by have := h.lt k hk; simp; omega)
  clear GR h hx hs
  go_enter Try.func23, Try.ntmps23
  go_upto_region 1 with fail
  obtain ⟨y0, y1, y2⟩ := en_cells K.out.now.1.1
  go_upto_region 2 with (go_at_call 28; refine (rgCopied_any A c S l b hl _ K.out.now.2.1).mono ?_; rintro e w3 ⟨A3, c3, rfl, own3, bb⟩)
  have hw1 : (w.alloc (.cells #[.string ⟨S.toArray⟩, .slice A l.length c, .bool b] 33)).heap.size = w.heap.size + 1 := by simp
  have K3 := Lib.hid (K.out.step bb)
  have zg : g < w.heap.size := Z0.out
  have zs : gs < w.heap.size := Z1.out
  have z3 : w.heap.size + 1 ≤ w3.heap.size := by have := bb.size; omega
  have K4 := Lib.hid ((boxN w3 #[.bool true, .string ⟨S.toArray⟩, .slice A3 l.length c3, .bool b] 50).and (((grow_rowG (rowG_own own3)).and K3.out).alloc _))
  clear K K3 y0 y1 y2 own3 bb
  generalize w3.alloc (.cells #[.bool true, .string ⟨S.toArray⟩, .slice A3 l.length c3, .bool b] 50) = w4 at *
  go_upto_region 3 with fail
  go_loopw [14] (fun i wr => ∃ k : Nat, k ≤ 2 ∧ i = .int .i64 k ∧ Tch (fun k => k = g) w4 wr ∧ Rgs wr P g (setK R p q ⟨true, S, l, b⟩ k)) (fun i _ => 2 - (intOf i).toNat)
  case atStart => exact ⟨0, by omega, rfl, Tch.refl _ _, K4.out.now.2.2.2.2.1⟩
  case round =>
    obtain ⟨k, hk, rfl, ht, hr⟩ := hrel
    have HS := Lib.hid (K4.out.now.1.1.tch ht (by omega))
    have HP := Lib.hid (K4.out.now.2.2.2.2.2.tch ht (by omega))
    by_cases hlt : k < 2
    · obtain ⟨y0, y1⟩ := pair_cells HP.out
      rcases (by omega : k = 0 ∨ k = 1) with rfl | rfl
      · obtain ⟨z0, z1, z2, z3'⟩ := four_cells HS.out
        have hp0 : (0 : Int) ≤ (p : Int) := by omega
        have hp1 : (p : Int) < 38 := by omega
        have HR := Lib.hid (hr.fresh (below_drewN (Below.refl wr.heap.size wr) 1))
        have HT := Lib.hid (ht.drewN 1)
        have HO := Lib.hid K4.out.now.2.1
        clear hr ht HS HP
        go_upto_region 5 with fail
        refine wp_region_still_tail 6 (by kernel_rfl) (by kernel_rfl) ?_
        simp only [List.take_succ_cons, List.take_zero, List.drop_succ_cons, List.drop_zero]
        change wpStill _ _ (World.drew wr) (fun a' => wpList _ _ _ _ a' (World.drew wr)) _ _
        have zr0 : wr.drew.cell? ⟨w3.heap.size, 0, none⟩ = some (.bool true) := z0
        have zr1 : wr.drew.cell? ⟨w3.heap.size, 1, none⟩ = some (.string ⟨S.toArray⟩) := z1
        have zr2 : wr.drew.cell? ⟨w3.heap.size, 2, none⟩ = some (.slice A3 l.length c3) := z2
        have zr3 : wr.drew.cell? ⟨w3.heap.size, 3, none⟩ = some (.bool b) := z3'
        have HR2 : Hid (Rgs wr.drew P g _) := HR.out
        have HT2 : Hid (Tch (fun k => k = g) w4 wr.drew) := HT.out
        clear z0 z1 z2 z3' y0 y1 HR HT
        generalize wr.drew = wd at *
        repeat still_step
        refine wpStill_nil ?_
        have HX := Lib.hid (HR2.out.set p (by omega) ⟨true, S, A3, l, c3, b⟩ ⟨hg, hf, fun e => by simp [RegV.reg] at e⟩ (store_txo HT2.out HR2.out XK.out hl HO.out hK3.out))
        obtain ⟨L, hL, hLn, hR5⟩ := HX.out
        have HR5 := Lib.hid hR5
        clear hR5 HX
        refine wpList_storeAt rfl 50 (.tmp 23) (.tmp 20) rfl g (1 + p * 4) (RegV.cells ⟨true, S, A3, l, c3, b⟩) rfl rfl 53 L hL (by kernel_rfl) (by rw [regV_len, hLn]; omega) (regV_one _) ?_
        have HT5 := Lib.hid (HT2.out.trans (Tch.grown (grown_setRow wd g (splice L (1 + p * 4) (RegV.cells ⟨true, S, A3, l, c3, b⟩)).toArray)))
        clear HT2 HR2 hL zr0 zr1 zr2 zr3
        generalize wd.setRow g (splice L (1 + p * 4) (RegV.cells ⟨true, S, A3, l, c3, b⟩)).toArray = w5 at *
        go_wp2_with fail
        go_roundw
        case rel => exact ⟨1, by omega, by go_num, HT5.out, HR5.out⟩
        case measure => simp [intOf]
      · obtain ⟨z0, z1, z2, z3'⟩ := four_cells HS.out
        have hp0 : (0 : Int) ≤ (q : Int) := by omega
        have hp1 : (q : Int) < 38 := by omega
        have HR := Lib.hid (hr.fresh (below_drewN (Below.refl wr.heap.size wr) 1))
        have HT := Lib.hid (ht.drewN 1)
        have HO := Lib.hid K4.out.now.2.1
        clear hr ht HS HP
        go_upto_region 5 with fail
        refine wp_region_still_tail 6 (by kernel_rfl) (by kernel_rfl) ?_
        simp only [List.take_succ_cons, List.take_zero, List.drop_succ_cons, List.drop_zero]
        change wpStill _ _ (World.drew wr) (fun a' => wpList _ _ _ _ a' (World.drew wr)) _ _
        have zr0 : wr.drew.cell? ⟨w3.heap.size, 0, none⟩ = some (.bool true) := z0
        have zr1 : wr.drew.cell? ⟨w3.heap.size, 1, none⟩ = some (.string ⟨S.toArray⟩) := z1
        have zr2 : wr.drew.cell? ⟨w3.heap.size, 2, none⟩ = some (.slice A3 l.length c3) := z2
        have zr3 : wr.drew.cell? ⟨w3.heap.size, 3, none⟩ = some (.bool b) := z3'
        have HR2 : Hid (Rgs wr.drew P g _) := HR.out
        have HT2 : Hid (Tch (fun k => k = g) w4 wr.drew) := HT.out
        clear z0 z1 z2 z3' y0 y1 HR HT
        generalize wr.drew = wd at *
        repeat still_step
        refine wpStill_nil ?_
        have HX := Lib.hid (HR2.out.set q (by omega) ⟨true, S, A3, l, c3, b⟩ ⟨hg, hf, fun e => by simp [RegV.reg] at e⟩ (store_txo HT2.out HR2.out XK.out hl HO.out hK3.out))
        obtain ⟨L, hL, hLn, hR5⟩ := HX.out
        have HR5 := Lib.hid hR5
        clear hR5 HX
        refine wpList_storeAt rfl 50 (.tmp 23) (.tmp 20) rfl g (1 + q * 4) (RegV.cells ⟨true, S, A3, l, c3, b⟩) rfl rfl 53 L hL (by kernel_rfl) (by rw [regV_len, hLn]; omega) (regV_one _) ?_
        have HT5 := Lib.hid (HT2.out.trans (Tch.grown (grown_setRow wd g (splice L (1 + q * 4) (RegV.cells ⟨true, S, A3, l, c3, b⟩)).toArray)))
        clear HT2 HR2 hL zr0 zr1 zr2 zr3
        generalize wd.setRow g (splice L (1 + q * 4) (RegV.cells ⟨true, S, A3, l, c3, b⟩)).toArray = w5 at *
        go_wp2_with fail
        go_roundw
        case rel => exact ⟨2, by omega, by go_num, HT5.out, HR5.out⟩
        case measure => simp [intOf]
    · obtain rfl : k = 2 := by omega
      have HR := Lib.hid hr
      have HT := Lib.hid (Tch.trans (Tch.fresh K4.out.now.2.2.1.2) ht)
      clear hr ht K4 HS HP
      go_wp2_with fail
      go_end0
      exact ⟨rfl, HR.out, HT.out⟩
end Go.Proofs.Ytcpijnoabipefaa

/-
  Contracts of the document's own answers, layer 8: Add, where a state is forgotten.
-/
import Derived.Test.YtfeaffabminpfaaHsAdd
import Derived.Deep.RegionWith
import Derived.Deep.CutRange
namespace Go.Proofs.Ytfeaffabminpfaa
open Go.RowKit

theorem below_in {wb : World} {A : Option Addr} {c : Nat} {L : List StP} {now next depth n : Int} (hL : L.length ≤ 1000) (hT : ∀ w', Below wb.heap.size wb w' → Row w' w'.heap.size A (flatS L)) :
    ∀ w', Below wb.heap.size wb w' → Calls Try.prog 40 #[.agg #[.slice A L.length c, .int .i64 now, .int .i64 next, .int .i64 depth], .int .i64 n] w' fun e w'' => ∃ A' c', e = .returned (.slice A' (belowS L n).length c') ∧ Hid (w''.ownsRow wb.heap.size 76 7 (.slice A' (belowS L n).length c') (belowS L n).length (flatS (belowS L n))) ∧ Below wb.heap.size wb w'' ∧ Below w'.heap.size w' w'' := by
  intro w' hb
  refine (refHBelow_any A c _ L now next depth n hL w' (Nat.le_refl _) (hT w' hb)).mono ?_
  rintro e w'' ⟨A', c', rfl, own, bb⟩
  exact ⟨A', c', rfl, own_base own hb.size, hb.trans (bb.mono hb.size), bb⟩

set_option maxHeartbeats 4000000 in
theorem refHAdd_full (A : Option Addr) (c B : Nat) (L : List StP) (now next depth : Int) (hL : L.length ≤ 900) (w : World) (hB : B ≤ w.heap.size) (h : Row w B A (flatS L)) (a : Int) (S : List UInt8) (A1 : Option Addr) (l : List RunP) (c1 : Nat) (X : List UInt8) (B1 : Option Addr) (m : List RunP) (d : Nat) (hS : Txu w A1 S l) (hX : Txu w B1 X m)
    (hg : goodE a S l X m = true) (hn : 0 ≤ next ∧ next ≤ 1000000) (hfull : depth < (L.length : Int)) (r0 p1 : Int) (rest : List Int) (hpath : pathS (L ++ [⟨next, now, ⟨a, S, A1, l, c1, X, B1, m, d⟩⟩]) next = r0 :: p1 :: rest)
    (hless : ((belowS (L ++ [⟨next, now, ⟨a, S, A1, l, c1, X, B1, m, d⟩⟩]) p1).length : Int) ≤ depth + 1) :
    Calls Try.prog 18 #[.agg #[.slice A L.length c, .int .i64 now, .int .i64 next, .int .i64 depth], .agg #[.int .i64 a, .string ⟨S.toArray⟩, .slice A1 l.length c1, .string ⟨X.toArray⟩, .slice B1 m.length d]] w (GivesH w (belowS (L ++ [⟨next, now, ⟨a, S, A1, l, c1, X, B1, m, d⟩⟩]) p1) next (next + 1) depth next 0) := by
  have BX := Lib.hid (boxesE3 w 28 34 28 #[.slice A L.length c, .int .i64 now, .int .i64 next, .int .i64 depth] #[.int .i64 a, .string ⟨S.toArray⟩, .slice A1 l.length c1, .string ⟨X.toArray⟩, .slice B1 m.length d] #[.slice none 0 0, .int .i64 0, .int .i64 0, .int .i64 0])
  have K := Lib.hid (BX.out.and (((grow_rowB h hB).and ((grow_txu hS).and (grow_txu hX))).step BX.out.now.2.2.2))
  have HPA := Lib.hid hpath
  have HLE := Lib.hid hless
  clear h BX hS hX hpath hless
  obtain ⟨y0, y1, y2, y3⟩ := hi_cells K.out.now.1.1
  obtain ⟨u0, u1, u2, u3, u4⟩ := ed_cells K.out.now.1.2.1
  go_enter Try.func18, Try.ntmps18
  go_wp2_with (go_at_call 39; refine (refEGood_any A1 B1 c1 d a S X l m _ K.out.now.2.2.1 K.out.now.2.2.2).mono ?_; rw [hg]; rintro e wb ⟨rfl, bb⟩; replace K := Lib.hid (K.out.step bb); clear bb y0 y1 y2 y3 u0 u1 u2 u3 u4; obtain ⟨y0, y1, y2, y3⟩ := hi_cells K.out.now.1.1; obtain ⟨u0, u1, u2, u3, u4⟩ := ed_cells K.out.now.1.2.1)
  clear y0 y1 y2 y3 u0 u1 u2 u3 u4
  have Z : w.heap.size + 1 + 1 < wb.heap.size := K.out.now.1.2.2.1.lt
  go_loopw [8, 9] (fun v i wr => ∃ k : Nat, k ≤ L.length ∧ i = .int .i64 k ∧ wr.ownsRow wb.heap.size 76 7 v k (flatS (L.take k)) ∧ Below wb.heap.size wb wr) (fun _ i _ => L.length - (intOf i).toNat)
  case atStart => exact ⟨0, Nat.zero_le _, rfl, World.ownsRow_nil _ _ _ _, Below.refl _ _⟩
  case round =>
    obtain ⟨k, hk, rfl, hown, hb⟩ := hrel
    have z := hb.size
    have KR := Lib.hid (K.out _ hb)
    obtain ⟨y0, y1, y2, y3⟩ := hi_cells KR.out.1.1
    obtain ⟨Av, cv, rfl⟩ := own_form hown
    by_cases hlt : k < L.length
    · obtain ⟨ad, rfl, _, d0, d1, d2, d3, d4, d5, d6⟩ := st_at KR.out.2.1 hlt
      have HS : Hid (L.take (k + 1) = L.take k ++ [L[k]]) := List.take_succ_eq_append_getElem hlt
      generalize L[k] = s at *
      obtain ⟨n1, up, ⟨a2, S2, A3, l2, c3, X2, B3, m2, d7⟩⟩ := s
      dsimp only at d0 d1 d2 d3 d4 d5 d6
      go_wp2_with (at_builtin; refine wpList_pushN rfl _ _ _ rfl _ 76 _ 7 104 elt_state 76 _ _ _ rfl hown (StP.cells ⟨n1, up, ⟨a2, S2, A3, l2, c3, X2, B3, m2, d7⟩⟩) _ rfl rfl rfl (stP_cell _) (by unfold maxLen; omega) (by omega) (by omega) ?_; intro v5 w5 hown5 hb5 _)
      go_roundw
      case rel => exact ⟨k + 1, by omega, by go_num, by rw [HS.out, flatS_snoc]; exact hown5, hb.trans hb5⟩
      case measure => simp [intOf]; omega
    · obtain rfl : k = L.length := by omega
      rw [List.take_length] at hown
      obtain ⟨u0, u1, u2, u3, u4⟩ := ed_cells KR.out.1.2.1
      go_upto_region 10 with (at_builtin; refine wpList_pushN rfl _ _ _ rfl _ 76 _ 7 104 elt_state 76 _ _ _ rfl hown (StP.cells ⟨next, now, ⟨a, S, A1, l, c1, X, B1, m, d⟩⟩) _ rfl rfl rfl (stP_cell _) (by unfold maxLen; omega) (by omega) (by omega) ?_; intro v5 w5 hown5 hb5 _)
      obtain ⟨A5, c5, rfl⟩ := own_form hown5
      rw [← flatS_snoc] at hown5
      have B5 := Lib.hid (hb.trans hb5)
      have K5 := Lib.hid (K.out _ B5.out)
      have z5 := B5.out.size
      clear hown hb hb5 KR z u0 u1 u2 u3 u4 y0 y1 y2 y3
      have HB : Hid (Blk (((w5.setCell ⟨w.heap.size, 0, none⟩ (.slice A5 (L.length + 1) c5)).setCell ⟨w.heap.size, 2, none⟩ (.int .i64 (next + 1))).setCell ⟨w.heap.size, 1, none⟩ (.int .i64 next)) w.heap.size 28 #[.slice A5 (L.length + 1) c5, .int .i64 next, .int .i64 (next + 1), .int .i64 depth]) := by
        have := ((K5.out.1.1.set_ 0 (.slice A5 (L.length + 1) c5)).set_ 2 (.int .i64 (next + 1))).set_ 1 (.int .i64 next)
        show Blk _ _ _ _
        simpa using this
      have hne : w.heap.size + 1 + 1 ≠ w.heap.size := by omega
      have HG := Lib.hid (((K5.out.1.2.2.1.far (p := ⟨w.heap.size, 0, none⟩) hne (.slice A5 (L.length + 1) c5)).far (p := ⟨w.heap.size, 2, none⟩) hne (.int .i64 (next + 1))).far (p := ⟨w.heap.size, 1, none⟩) hne (.int .i64 next))
      have hlb : w.heap.size < wb.heap.size := by omega
      have HO := Lib.hid (own_away (own_away (own_away hown5 (p := ⟨w.heap.size, 0, none⟩) hlb (.slice A5 (L.length + 1) c5)) (p := ⟨w.heap.size, 2, none⟩) hlb (.int .i64 (next + 1))) (p := ⟨w.heap.size, 1, none⟩) hlb (.int .i64 next))
      have HW := Lib.hid (((K5.out.1.2.2.2.setCell (p := ⟨w.heap.size, 0, none⟩) (Nat.le_refl _) (.slice A5 (L.length + 1) c5)).setCell (p := ⟨w.heap.size, 2, none⟩) (Nat.le_refl _) (.int .i64 (next + 1))).setCell (p := ⟨w.heap.size, 1, none⟩) (Nat.le_refl _) (.int .i64 next))
      have ZY : Hid (wb.heap.size ≤ (((w5.setCell ⟨w.heap.size, 0, none⟩ (.slice A5 (L.length + 1) c5)).setCell ⟨w.heap.size, 2, none⟩ (.int .i64 (next + 1))).setCell ⟨w.heap.size, 1, none⟩ (.int .i64 next)).heap.size) := by show _ ≤ _; simp; omega
      obtain ⟨⟨y0, y1, y2, y3⟩, y4, y5, y6, y7⟩ := hi_var K5.out.1.1
      go_wp2_with fail
      clear y0 y1 y2 y3 y4 y5 y6 y7 hown5 K5 B5
      generalize ((w5.setCell ⟨w.heap.size, 0, none⟩ (.slice A5 (L.length + 1) c5)).setCell ⟨w.heap.size, 2, none⟩ (.int .i64 (next + 1))).setCell ⟨w.heap.size, 1, none⟩ (.int .i64 next) = wy at *
      have e1 : (L ++ [StP.mk next now ⟨a, S, A1, l, c1, X, B1, m, d⟩]).length = L.length + 1 := by simp
      obtain ⟨L1, hL1⟩ : ∃ L1, L ++ [StP.mk next now ⟨a, S, A1, l, c1, X, B1, m, d⟩] = L1 := ⟨_, rfl⟩
      rw [hL1] at e1 HPA HLE HO
      have HL1 := Lib.hid hL1
      clear hL1
      rw [← e1] at HB HO
      have HE1 := Lib.hid e1
      clear e1
      go_loopw [10] (fun p wx => wx = wy ∨ (wy.heap.size < wx.heap.size ∧ ∃ A7 c7, Blk wx w.heap.size 28 #[.slice A7 (belowS L1 p1).length c7, .int .i64 next, .int .i64 (next + 1), .int .i64 depth] ∧ Blk wx (w.heap.size + 1 + 1) 28 #[.slice none 0 0, .int .i64 0, .int .i64 0, .int .i64 0] ∧
        wx.ownsRow wy.heap.size 76 7 (.slice A7 (belowS L1 p1).length c7) (belowS L1 p1).length (flatS (belowS L1 p1)) ∧ Below w.heap.size w wx)) (fun _ wx => if wx.heap.size = wy.heap.size then 1 else 0)
      case atStart => first | exact Or.inl rfl | exact Or.inl trivial | simp
      case round =>
        have hwz := ZY.out
        rcases hrel with hw | ⟨hsz, A7, c7, hB7, hG7, hO7, hW7⟩
        · subst hw
          obtain ⟨y0, y1, y2, y3⟩ := hi_cells HB.out
          have hd : depth < (L1.length : Int) - 1 := by have := HE1.out; omega
          have hl1 : L1.length ≤ 1000 := by have := HE1.out; omega
          have RW := Lib.hid (Row.of_own HO.out)
          go_upto_region 15 with (go_at_call 24; refine (refHPath_any A5 c5 _ L1 next (next + 1) depth hl1 _ (Nat.le_refl _) RW.out).mono ?_; rw [HPA.out]; rintro e w6 ⟨A6, c6, rfl, own6, bb⟩; have O6 := Lib.hid own6; have B6 := Lib.hid bb; clear own6 bb y0 y1 y2 y3)
          obtain ⟨g6, _, hA6, hg6, hg6'⟩ := own_at O6.out (by simp)
          obtain ⟨adp, hap, dp⟩ := int_cell (k := 1) O6.out (by simp)
          subst hap
          replace dp : w6.cell? (adp.add 1) = some (.int .i64 p1) := dp
          have dp' : w6.cell? ⟨g6, 1, none⟩ = some (.int .i64 p1) := by have e := hA6; simp at e; obtain ⟨e, _⟩ := e; subst e; simpa [Addr.add] using dp
          have HB6 := Lib.hid (HB.out.below B6.out HB.out.lt)
          have HG6 := Lib.hid (HG.out.below B6.out HG.out.lt)
          have HW6 := Lib.hid (HW.out.trans (B6.out.mono (by omega)))
          have R6 : Hid (∀ w', Below w6.heap.size w6 w' → Row w' w'.heap.size A5 (flatS L1)) := fun w' hb => (RW.out.below (B6.out.trans (hb.mono (by omega)))).more (by have := hb.size; omega)
          have TB := Lib.hid (below_in (wb := w6) (c := c5) (now := next) (next := next + 1) (depth := depth) (n := p1) hl1 R6.out)
          have hb0 : Below w6.heap.size w6 w6 := Below.refl _ _
          obtain ⟨⟨y0, y1, y2, y3⟩, y4, y5, y6, y7⟩ := hi_var HB6.out
          go_region_with (go_at_call 40; refine (TB.out _ ?_).mono ?_; (first | with_reducible assumption | with_reducible exact belowE_dr hb0); rintro e w7 ⟨A7, c7, rfl, o7, hbx, hby⟩; obtain ⟨⟨q0, q1, q2, q3⟩, q4, q5, q6, q7⟩ := hi_var (HB6.out.below hbx HB6.out.lt))
          all_goals (
            have z7 := hbx.size
            have B7 : Hid (Blk (w7.setCell ⟨w.heap.size, 0, none⟩ (.slice A7 (belowS L1 p1).length c7)) w.heap.size 28 #[.slice A7 (belowS L1 p1).length c7, .int .i64 next, .int .i64 (next + 1), .int .i64 depth]) := by
              have := (HB6.out.below hbx HB6.out.lt).set_ 0 (.slice A7 (belowS L1 p1).length c7)
              show Blk _ _ _ _
              simpa using this
            have G7 := Lib.hid ((HG6.out.below hbx HG6.out.lt).far (p := ⟨w.heap.size, 0, none⟩) hne (.slice A7 (belowS L1 p1).length c7))
            have O7 := Lib.hid (own_away o7.out (p := ⟨w.heap.size, 0, none⟩) (show w.heap.size < w6.heap.size by omega) (.slice A7 (belowS L1 p1).length c7))
            have W7 := Lib.hid ((HW6.out.trans (hbx.mono (by omega))).setCell (p := ⟨w.heap.size, 0, none⟩) (Nat.le_refl _) (.slice A7 (belowS L1 p1).length c7))
            go_roundw
            case rel => refine ⟨_, _, _, _, _, _, _, _, _, _, _, _, _, _, _, _, ?_, rfl⟩; refine Or.inr ?_; exact ⟨by simp; omega, A7, c7, B7.out, G7.out, own_base O7.out (by omega), W7.out⟩
            case measure => simp; omega)
        · obtain ⟨y0, y1, y2, y3⟩ := hi_cells hB7
          obtain ⟨⟨v0, v1, v2, v3⟩, v4, v5, v6, v7⟩ := hi_var hG7
          have hd : ((belowS L1 p1).length : Int) - 1 ≤ depth := by have := HLE.out; omega
          have hlw : (belowS L1 p1).length ≤ 1000 := by have := belowS_len L1 p1; have := HE1.out; omega
          have HO7 := Lib.hid hO7
          have HW7 := Lib.hid hW7
          have HG7 := Lib.hid hG7
          clear hB7 hG7 hO7 hW7
          obtain ⟨L2, hL2⟩ : ∃ L2, belowS L1 p1 = L2 := ⟨_, rfl⟩
          rw [hL2] at y0 hd hlw HO7
          have HL2 := Lib.hid hL2
          clear hL2
          go_wp2_with fail
          refine ret_hist rfl _ _ (w.heap.size + 1 + 1) _ _ _ _ rfl (hi_four HG7.out _ _ _ _) rfl ?_
          have hlt4 : w.heap.size + 1 + 1 < wy.heap.size := by omega
          rw [HL1.out, HL2.out]
          exact ⟨A7, c7, rfl, own_base (base := wy.heap.size) (own_away (own_away (own_away (own_away HO7.out (p := ⟨w.heap.size + 1 + 1, 0, none⟩) hlt4 _) (p := ⟨w.heap.size + 1 + 1, 1, none⟩) hlt4 _) (p := ⟨w.heap.size + 1 + 1, 2, none⟩) hlt4 _) (p := ⟨w.heap.size + 1 + 1, 3, none⟩) hlt4 _) (by omega), below_four HW7.out (by omega) _ _ _ _⟩
end Go.Proofs.Ytfeaffabminpfaa

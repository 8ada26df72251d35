/-
  Of texts that are alike for a level the edits are alike for it: layer 15, SubstHides.
-/
import Derived.Test.YtgmeamefbfgbgaaDoorSuAlv2
import Derived.Test.YtgmeamefbfgbgaaDoorHsApply
import Derived.Test.YtgmeamefbfgbgaaDoorM07e
import Derived.Test.YtgmeamefbfgbgaaDoorSuLawI
import Derived.Test.YtgmeamefbfgbgaaDoorM04
namespace Go.Proofs.YtgmeamefbfgbgaaDoor
open Go.RowKit
set_option maxRecDepth 100000

theorem hide_cells15 {w : World} {g T : Nat} {a b : Int} {pat rep : List UInt8} {ev : Bool} {O : List UInt8} (h : Blk w g T #[.int .i64 a, .int .i64 b, .string ⟨pat.toArray⟩, .string ⟨rep.toArray⟩, .bool ev, .string ⟨O.toArray⟩]) :
    w.cell? ⟨g, 0, none⟩ = some (.int .i64 a) ∧ w.cell? ⟨g, 1, none⟩ = some (.int .i64 b) ∧ w.cell? ⟨g, 2, none⟩ = some (.string ⟨pat.toArray⟩) ∧ w.cell? ⟨g, 3, none⟩ = some (.string ⟨rep.toArray⟩) ∧ w.cell? ⟨g, 4, none⟩ = some (.bool ev) ∧ w.cell? ⟨g, 5, none⟩ = some (.string ⟨O.toArray⟩) :=
  ⟨h.cell 0, h.cell 1, h.cell 2, h.cell 3, h.cell 4, h.cell 5⟩
theorem sub_other (S : List UInt8) (l : List RunP) (y : Nat) (O : List UInt8) (a b : Int) (pat rep : List UInt8) (ev : Bool) {e1 e2 : EdP} {n1 n2 r1 r2 : Nat} (h1 : subS S l y a b pat rep ev = ((e1, n1), r1)) (h2 : subS (otherOf S l y O) l y a b pat rep ev = ((e2, n2), r2)) :
    r1 = r2 ∧ n1 = n2 ∧ e1.a = e2.a ∧ lowT e1.S e2.S e1.l e2.l y = true ∧ lowT e1.X e2.X e1.m e2.m y = true := by
  have key : (subS S l y a b pat rep ev).2 = (subS (otherOf S l y O) l y a b pat rep ev).2 ∧ (subS S l y a b pat rep ev).1.2 = (subS (otherOf S l y O) l y a b pat rep ev).1.2 ∧ (subS S l y a b pat rep ev).1.1.a = (subS (otherOf S l y O) l y a b pat rep ev).1.1.a ∧
    lowT (subS S l y a b pat rep ev).1.1.S (subS (otherOf S l y O) l y a b pat rep ev).1.1.S (subS S l y a b pat rep ev).1.1.l (subS (otherOf S l y O) l y a b pat rep ev).1.1.l y = true ∧
    lowT (subS S l y a b pat rep ev).1.1.X (subS (otherOf S l y O) l y a b pat rep ev).1.1.X (subS S l y a b pat rep ev).1.1.m (subS (otherOf S l y O) l y a b pat rep ev).1.1.m y = true := by
    by_cases hg : goodT S l = true
    · exact sub_hides ⟨hg, by rw [otherOf_good]; exact hg, otherOf_like hg y O⟩ a b pat rep ev
    · have ho : otherOf S l y O = S := by unfold otherOf; rw [if_neg (fun e => hg e.1)]
      have hs : subS S l y a b pat rep ev = ((⟨0, [], [], [], []⟩, 0), 2) := by unfold subS viewOf; rw [if_neg hg]; exact if_pos (Or.inl (by decide))
      have hn : lowT [] [] [] [] y = true := by unfold lowT; rw [decide_eq_true_iff]; exact ⟨rfl, rfl, rfl, rfl⟩
      rw [ho, hs]
      exact ⟨rfl, rfl, rfl, hn, hn⟩
  rw [h1, h2] at key
  exact key
set_option maxHeartbeats 8000000 in
theorem substHides_walk (w : World) (KS : SubstSays w) (A : Option Addr) (c : Nat) (S : List UInt8) (l : List RunP) (h : Txu w A S l) (y : Nat) (hy : y < 18446744073709551616) (a b : Int) (pat rep : List UInt8) (ev : Bool) (O : List UInt8) (ha : -9223372036854775808 ≤ a ∧ a ≤ 9223372036854775807) (hb : -9223372036854775808 ≤ b ∧ b ≤ 9223372036854775807) (hp : pat.length ≤ maxLen) (hr : rep.length ≤ maxLen) (hO : O.length ≤ maxLen) :
    Calls Tryd.prog 7 #[.agg #[.string ⟨S.toArray⟩, .slice A l.length c], .int .u64 (y : Nat), .agg #[.int .i64 a, .int .i64 b, .string ⟨pat.toArray⟩, .string ⟨rep.toArray⟩, .bool ev, .string ⟨O.toArray⟩]] w fun e w' => e = .returned (.bool true) ∧ Below w.heap.size w w' := by
  have HS := Lib.hid KS
  have HF := Lib.hid h.hf
  have HT := Lib.hid (grow_txu h)
  have K := Lib.hid (boxesE2 w 24 46 #[.string ⟨S.toArray⟩, .slice A l.length c] #[.int .i64 a, .int .i64 b, .string ⟨pat.toArray⟩, .string ⟨rep.toArray⟩, .bool ev, .string ⟨O.toArray⟩])
  have HFS := Lib.hid (fun wx => lawFitS_any A c S l a b pat rep ev hp hr wx)
  have HFF := Lib.hid (fitS_facts (S := S) (l := l) (pat := pat) (rep := rep))
  unfold maxLen at hp hr hO
  generalize fitS S l pat rep = fj at *
  clear h KS
  go_enter Tryd.func7, Tryd.ntmps7
  go_upto_region 1 with fail
  generalize (w.alloc (.cells #[.string ⟨S.toArray⟩, .slice A l.length c] 24)).alloc (.cells #[.int .i64 a, .int .i64 b, .string ⟨pat.toArray⟩, .string ⟨rep.toArray⟩, .bool ev, .string ⟨O.toArray⟩] 46) = wa at *
  go_upto_region 3 with (go_at_call 9; refine (aliveS_any _ (HS.out.at K.out.now.2.2)).mono ?_; rintro e w1 ⟨rfl, bb⟩; replace K := Lib.hid (K.out.step bb); clear bb)
  obtain ⟨y0, y1⟩ := txt_cells K.out.now.1
  obtain ⟨x0, x1, x2, x3, x4, x5⟩ := hide_cells15 K.out.now.2.1
  cases fj with
  | false =>
    go_wp2_with (go_at_call 10; refine (HFS.out _).mono ?_; rintro e w2 ⟨rfl, bb⟩; replace K := Lib.hid (K.out.step bb); clear bb)
    go_ret
    exact ⟨rfl, K.out.now.2.2⟩
  | true =>
    obtain ⟨l1, l2, l3, l4⟩ := HFF.out rfl
    by_cases hO5 : (O.length : Int) > 5000
    · have gO : decide ((O.length : Int) > 5000) = true := decide_eq_true hO5
      go_wp2_with (go_at_call 10; refine (HFS.out _).mono ?_; rintro e w2 ⟨rfl, bb⟩; replace K := Lib.hid (K.out.step bb); clear bb y0 y1 x0 x1 x2 x3 x4 x5; obtain ⟨y0, y1⟩ := txt_cells K.out.now.1; obtain ⟨x0, x1, x2, x3, x4, x5⟩ := hide_cells15 K.out.now.2.1)
      go_ret
      exact ⟨rfl, K.out.now.2.2⟩
    · have gO : decide ((O.length : Int) > 5000) = false := decide_eq_false hO5
      have hol : (otherOf S l y O).length = S.length := otherOf_len S l y O
      have HOT := Lib.hid (fun wx (hb0 : Below w.heap.size w wx) => refTOther_any A c wx.heap.size S l y hy O (by unfold maxLen; omega) wx (Nat.le_refl _) (HT.out _ hb0))
      have HTT : Hid (∀ wx, Txu wx A S l → Txu wx A (otherOf S l y O) l) := fun wx hx => ⟨by rw [hol]; exact hx.hS, hx.hf, hx.hl, hx.row⟩
      have HD := Lib.hid (fun wx (hb0 : Below w.heap.size w wx) => HS.out.do_ A c S l y a b pat rep ev wx hb0 (HT.out _ hb0) l1 l2 hy ha hb l3 l4)
      have HD2 := Lib.hid (fun wx (hb0 : Below w.heap.size w wx) => HS.out.do_ A c (otherOf S l y O) l y a b pat rep ev wx hb0 (HTT.out _ (HT.out _ hb0)) (by rw [hol]; exact l1) l2 hy ha hb l3 l4)
      obtain ⟨v, hv⟩ : ∃ v, subS S l y a b pat rep ev = v := ⟨_, rfl⟩
      obtain ⟨v', hv'⟩ : ∃ v, subS (otherOf S l y O) l y a b pat rep ev = v := ⟨_, rfl⟩
      rw [hv] at HD
      rw [hv'] at HD2
      obtain ⟨⟨⟨ea, ES, el, EX, em⟩, n⟩, er⟩ := v
      obtain ⟨⟨⟨ea2, ES2, el2, EX2, em2⟩, n2⟩, er2⟩ := v'
      have HO := Lib.hid (okS (S := S) (l := l) HF.out hy hv)
      have HO2 := Lib.hid (okS (S := otherOf S l y O) (l := l) HF.out hy hv')
      obtain ⟨k1, k2, k3, k4, k5⟩ := sub_other S l y O a b pat rep ev hv hv'
      dsimp only at k3 k4 k5
      subst k1 k2 k3
      have HL1 := Lib.hid k4
      have HL2 := Lib.hid k5
      clear k4 k5 hv hv' hol
      generalize otherOf S l y O = T at *
      go_upto_region 5 with (go_at_call 10; refine (HFS.out _).mono ?_; rintro e w2 ⟨rfl, bb⟩; replace K := Lib.hid (K.out.step bb); clear bb y0 y1 x0 x1 x2 x3 x4 x5; obtain ⟨y0, y1⟩ := txt_cells K.out.now.1; obtain ⟨x0, x1, x2, x3, x4, x5⟩ := hide_cells15 K.out.now.2.1)
      go_upto_region 6 with (go_at_call 17; refine (HOT.out _ K.out.now.2.2).mono ?_; rintro e w3 ⟨rfl, bb⟩; have KU := Lib.hid (((K.out.step bb).alloc (.cells #[.string ⟨T.toArray⟩, .slice A l.length c] 24)).and (grow_new w3 24 #[.string ⟨T.toArray⟩, .slice A l.length c])); clear bb y0 y1 x0 x1 x2 x3 x4 x5)
      generalize w3.heap.size = g3 at *
      generalize w3.alloc (.cells #[.string ⟨T.toArray⟩, .slice A l.length c] 24) = w4 at *
      obtain ⟨y0, y1⟩ := txt_cells KU.out.now.1.1
      obtain ⟨x0, x1, x2, x3, x4, x5⟩ := hide_cells15 KU.out.now.1.2.1
      obtain ⟨u0, u1⟩ := txt_cells KU.out.now.2
      clear K
      go_upto_region 7 with (go_at_call 11; refine (HD.out _ KU.out.now.1.2.2).mono ?_; rintro e w5 ⟨A4, c4, B4, d4, rfl, rA, rB, bb⟩; dsimp only at rA rB ⊢; have KE := Lib.hid ((KU.out.step bb).evar (c := c4) (d := d4) (a := ea) (A := A4) (B := B4) (OkT.txt2 HO.out.1 rA) (OkT.txt2 HO.out.2 rB)); clear bb rA rB y0 y1 x0 x1 x2 x3 x4 x5 u0 u1)
      generalize w5.heap.size = g5 at *
      generalize w5.alloc (.cells #[.int .i64 ea, .string ⟨ES.toArray⟩, .slice A4 el.length c4, .string ⟨EX.toArray⟩, .slice B4 em.length d4] 32) = w6 at *
      obtain ⟨y0, y1⟩ := txt_cells KE.out.now.2.1.1
      obtain ⟨x0, x1, x2, x3, x4, x5⟩ := hide_cells15 KE.out.now.2.1.2.1
      obtain ⟨u0, u1⟩ := txt_cells KE.out.now.2.2
      obtain ⟨v0, v1, v2, v3, v4⟩ := ed_cells KE.out.now.1.1
      clear KU
      go_upto_region 8 with (go_at_call 11; refine (HD2.out _ KE.out.now.2.1.2.2).mono ?_; rintro e w7 ⟨A6, c6, B6, d6, rfl, rA, rB, bb⟩; dsimp only at rA rB ⊢; have KF := Lib.hid ((KE.out.step bb).evar (c := c6) (d := d6) (a := ea) (A := A6) (B := B6) (OkT.txt2 HO2.out.1 rA) (OkT.txt2 HO2.out.2 rB)); clear bb rA rB y0 y1 x0 x1 x2 x3 x4 x5 u0 u1 v0 v1 v2 v3 v4)
      generalize w7.heap.size = g7 at *
      generalize w7.alloc (.cells #[.int .i64 ea, .string ⟨ES2.toArray⟩, .slice A6 el2.length c6, .string ⟨EX2.toArray⟩, .slice B6 em2.length d6] 32) = w8 at *
      obtain ⟨v0, v1, v2, v3, v4⟩ := ed_cells KF.out.now.1.1
      obtain ⟨u0, u1, u2, u3, u4⟩ := ed_cells KF.out.now.2.1.1
      clear KE
      have HLA : Hid (∀ wx, Txu wx A4 ES el → Txu wx A6 ES2 el2 → Calls Tryd.prog 18 #[.agg #[.string ⟨ES.toArray⟩, .slice A4 el.length c4], .agg #[.string ⟨ES2.toArray⟩, .slice A6 el2.length c6], .int .u64 (y : Nat)] wx fun e w' => e = .returned (.bool true) ∧ Below wx.heap.size wx w') := fun wx h1 h2 => by
        have := refTLow_any A4 A6 c4 c6 wx.heap.size wx.heap.size ES ES2 el el2 y hy wx (Nat.le_refl _) (Nat.le_refl _) h1 h2
        rw [HL1.out] at this
        exact this
      have HLB : Hid (∀ wx, Txu wx B4 EX em → Txu wx B6 EX2 em2 → Calls Tryd.prog 18 #[.agg #[.string ⟨EX.toArray⟩, .slice B4 em.length d4], .agg #[.string ⟨EX2.toArray⟩, .slice B6 em2.length d6], .int .u64 (y : Nat)] wx fun e w' => e = .returned (.bool true) ∧ Below wx.heap.size wx w') := fun wx h1 h2 => by
        have := refTLow_any B4 B6 d4 d6 wx.heap.size wx.heap.size EX EX2 em em2 y hy wx (Nat.le_refl _) (Nat.le_refl _) h1 h2
        rw [HL2.out] at this
        exact this
      have e1 : ((er : Int) == (er : Int)) = true := by simp
      have e2 : ((n : Int) == (n : Int)) = true := by simp
      have e3 : (ea == ea) = true := by simp
      go_wp2_with (first
        | (go_at_call_of 18 el; with_reducible refine (HLA.out _ KF.out.now.2.1.2.1 KF.out.now.1.2.1).mono ?_; rintro e w9 ⟨rfl, bb⟩; replace KF := Lib.hid (KF.out.step bb); clear bb v0 v1 v2 v3 v4 u0 u1 u2 u3 u4; obtain ⟨v0, v1, v2, v3, v4⟩ := ed_cells KF.out.now.1.1; obtain ⟨u0, u1, u2, u3, u4⟩ := ed_cells KF.out.now.2.1.1)
        | (go_at_call_of 18 em; with_reducible refine (HLB.out _ KF.out.now.2.1.2.2 KF.out.now.1.2.2).mono ?_; rintro e wA ⟨rfl, bb⟩; replace KF := Lib.hid (KF.out.step bb); clear bb))
      go_ret
      exact ⟨rfl, KF.out.now.2.2.1.2.2⟩
end Go.Proofs.YtgmeamefbfgbgaaDoor

/-
  The landed Join: layer 7.
-/
import Derived.Test.YtmpliacojljchaaEdiOf
namespace Go.Proofs.Ytmpliacojljchaa
open Go.RowKit

set_option maxHeartbeats 2000000 in
theorem ediJoin_any (A A2 A3 A4 : Option Addr) (c d c3 d4 : Nat) (a : Int) (S : List UInt8) (l : List RunP) (X : List UInt8) (m : List RunP) (b : Int) (T : List UInt8) (q : List RunP) (Y : List UInt8) (r : List RunP) (hl : l.length ≤ 1000000) (w : World)
    (h : Txu w A S l) (hX : Txu w A2 X m) (hT : Txu w A3 T q) (hY : Txu w A4 Y r) :
    Calls Try.prog 22 #[.agg #[.int .i64 a, .string ⟨S.toArray⟩, .slice A l.length c, .string ⟨X.toArray⟩, .slice A2 m.length d], .agg #[.int .i64 b, .string ⟨T.toArray⟩, .slice A3 q.length c3, .string ⟨Y.toArray⟩, .slice A4 r.length d4]] w (GivesEB w (joinE a S l X m b T q Y r)) := by
  have FL := Lib.hid (And.intro hX.hf hY.hf)
  have HT := Lib.hid ((grow_txu h).and ((grow_txu hX).and ((grow_txu hT).and (grow_txu hY))))
  have K := Lib.hid (boxesE3 w 29 29 29 #[.int .i64 a, .string ⟨S.toArray⟩, .slice A l.length c, .string ⟨X.toArray⟩, .slice A2 m.length d] #[.int .i64 b, .string ⟨T.toArray⟩, .slice A3 q.length c3, .string ⟨Y.toArray⟩, .slice A4 r.length d4] #[.int .i64 0, .string ⟨#[]⟩, .slice none 0 0, .string ⟨#[]⟩, .slice none 0 0])
  clear h hX hT hY
  obtain ⟨y0, y1, y2, y3, y4⟩ := ed_cells K.out.now.1; obtain ⟨⟨z0, z1, z2, z3, z4⟩, z5, z6, z7, z8, z9⟩ := ed_var K.out.now.2.1; obtain ⟨⟨u0, u1, u2, u3, u4⟩, u5, u6, u7, u8, u9⟩ := ed_var K.out.now.2.2.1
  by_cases hg : goodE a S l X m = true
  · by_cases hg2 : goodE b T q Y r = true
    · have GA := (goodE_iff a S X l m).1 hg
      have GB := (goodE_iff b T Y q r).1 hg2
      have ha0 : 0 ≤ a := GA.2.2.1
      have ha1 : a ≤ 4096 := GA.2.2.2
      have hb0 : 0 ≤ b := GB.2.2.1
      have hb1 : b ≤ 4096 := GB.2.2.2
      clear GA GB
      obtain ⟨p, hp⟩ : ∃ p, applyE X m (b - a) T q Y r = p := ⟨_, rfl⟩
      have HOK : Hid (OkT p) := by show OkT _; rw [← hp]; exact okT_apply FL.out.1 FL.out.2 _ _ _
      have HJ : Hid (joinE a S l X m b T q Y r = if p.2 = 0 then (⟨a, S, l, p.1.1, p.1.2⟩, true) else (⟨0, [], [], [], []⟩, false)) := by show _ = _; unfold joinE; rw [if_pos ⟨hg, hg2⟩, hp]
      have HP := Lib.hid hp
      clear hp
      obtain ⟨⟨V, k⟩, n⟩ := p
      go_enter Try.func22, Try.ntmps22
      go_upto_region 4 with (first
        | (go_at_call_of 31 l; refine (ediGood_any A A2 c d a S X l m _ (HT.out _ K.out.now.2.2.2).1 (HT.out _ K.out.now.2.2.2).2.1).mono ?_; rw [hg]; rintro e w1 ⟨rfl, bb⟩; replace K := Lib.hid (K.out.step bb); clear y0 y1 y2 y3 y4 z0 z1 z2 z3 z4 z5 z6 z7 z8 z9 u0 u1 u2 u3 u4 u5 u6 u7 u8 u9; clear bb; obtain ⟨y0, y1, y2, y3, y4⟩ := ed_cells K.out.now.1; obtain ⟨⟨z0, z1, z2, z3, z4⟩, z5, z6, z7, z8, z9⟩ := ed_var K.out.now.2.1; obtain ⟨⟨u0, u1, u2, u3, u4⟩, u5, u6, u7, u8, u9⟩ := ed_var K.out.now.2.2.1)
        | (go_at_call_of 31 q; refine (ediGood_any A3 A4 c3 d4 b T Y q r _ (HT.out _ K.out.now.2.2.2).2.2.1 (HT.out _ K.out.now.2.2.2).2.2.2).mono ?_; rw [hg2]; rintro e w2 ⟨rfl, bb⟩; replace K := Lib.hid (K.out.step bb); clear y0 y1 y2 y3 y4 z0 z1 z2 z3 z4 z5 z6 z7 z8 z9 u0 u1 u2 u3 u4 u5 u6 u7 u8 u9; clear bb; obtain ⟨y0, y1, y2, y3, y4⟩ := ed_cells K.out.now.1; obtain ⟨⟨z0, z1, z2, z3, z4⟩, z5, z6, z7, z8, z9⟩ := ed_var K.out.now.2.1; obtain ⟨⟨u0, u1, u2, u3, u4⟩, u5, u6, u7, u8, u9⟩ := ed_var K.out.now.2.2.1))
      replace K : Hid (Grow (w2.setCell ⟨w.heap.size + 1, 0, none⟩ (.int .i64 (b - a))) (fun w' => Blk w' w.heap.size 29 #[.int .i64 a, .string ⟨S.toArray⟩, .slice A l.length c, .string ⟨X.toArray⟩, .slice A2 m.length d] ∧ Blk w' (w.heap.size + 1) 29 #[.int .i64 (b - a), .string ⟨T.toArray⟩, .slice A3 q.length c3, .string ⟨Y.toArray⟩, .slice A4 r.length d4] ∧ Blk w' (w.heap.size + 1 + 1) 29 #[.int .i64 0, .string ⟨#[]⟩, .slice none 0 0, .string ⟨#[]⟩, .slice none 0 0] ∧ Below w.heap.size w w')) :=
        (grow_blk (K.out.now.1.far (p := ⟨w.heap.size + 1, 0, none⟩) (by show w.heap.size ≠ w.heap.size + 1; omega) _)).and ((grow_blk (by have := K.out.now.2.1.set_ 0 (.int .i64 (b - a)); simpa using this)).and ((grow_blk (K.out.now.2.2.1.far (p := ⟨w.heap.size + 1, 0, none⟩) (by show w.heap.size + 1 + 1 ≠ w.heap.size + 1; omega) _)).and (grow_bel (K.out.now.2.2.2.setCell (by show w.heap.size ≤ w.heap.size + 1; omega) _))))
      clear y0 y1 y2 y3 y4 z0 z1 z2 z3 z4 z5 z6 z7 z8 z9 u0 u1 u2 u3 u4 u5 u6 u7 u8 u9
      generalize w2.setCell ⟨w.heap.size + 1, 0, none⟩ (.int .i64 (b - a)) = wc at *
      obtain ⟨y0, y1, y2, y3, y4⟩ := ed_cells K.out.now.1; obtain ⟨⟨z0, z1, z2, z3, z4⟩, z5, z6, z7, z8, z9⟩ := ed_var K.out.now.2.1; obtain ⟨⟨u0, u1, u2, u3, u4⟩, u5, u6, u7, u8, u9⟩ := ed_var K.out.now.2.2.1
      by_cases hn : n = 0
      · subst hn
        have HR : Hid (joinE a S l X m b T q Y r = (⟨a, S, l, V, k⟩, true)) := by show _ = _; rw [HJ.out]; rfl
        go_upto_region 7 with (go_at_call 20; refine (ediApply_any A2 A3 A4 d c3 d4 X m (b - a) T q Y r _ (HT.out _ K.out.now.2.2.2).2.1 (HT.out _ K.out.now.2.2.2).2.2.1 (HT.out _ K.out.now.2.2.2).2.2.2).mono ?_; rw [HP.out]; rintro e w4 ⟨A5, c5, rfl, own, bb⟩; dsimp only at own ⊢; have Z := K.out.now.2.2.1.lt; have Z2 := bb.size; replace K := Lib.hid (((K.out.step bb).own Z own).var (c := c5) (HOK.out.txt (Row.of_own own))); clear y0 y1 y2 y3 y4 z0 z1 z2 z3 z4 z5 z6 z7 z8 z9 u0 u1 u2 u3 u4 u5 u6 u7 u8 u9; clear own bb; obtain ⟨y0, y1, y2, y3, y4⟩ := ed_cells K.out.now.2.2.1; obtain ⟨⟨z0, z1, z2, z3, z4⟩, z5, z6, z7, z8, z9⟩ := ed_var K.out.now.2.2.2.1; obtain ⟨⟨u0, u1, u2, u3, u4⟩, u5, u6, u7, u8, u9⟩ := ed_var K.out.now.2.2.2.2.1; obtain ⟨v0, v1⟩ := txt_cells K.out.now.1.1)
        generalize w4.alloc (.cells #[.string ⟨V.toArray⟩, .slice A5 k.length c5] 24) = wb at *
        generalize w4.heap.size = g6 at *
        clear y0 y1 y2 y3 y4 z0 z1 z2 z3 z4 z5 z6 z7 z8 z9 u0 u1 u2 u3 u4 u5 u6 u7 u8 u9
        clear v0 v1
        have hb0 : Below wb.heap.size wb wb := Below.refl _ _
        have Z3 : Hid (w.heap.size + 1 + 1 < wb.heap.size) := K.out.now.2.2.2.2.1.lt
        have ZN : Hid (g6 ≠ w.heap.size + 1 + 1 ∧ w.heap.size ≠ w.heap.size + 1 + 1) := ⟨by omega, by omega⟩
        clear Z Z2
        have TM := Lib.hid (copied_in (A := A) (c := c) (S := S) hl Z3.out (fun w' hb => (HT.out w' (K.out w' hb).2.2.2.2.2).1))
        have KB := Lib.hid (fun w' hb => And.intro (txt_cells (K.out w' hb).1.1) (ed_cells (K.out w' hb).2.2.1))
        go_region_held3 (fun w' => (w'.cell? ⟨g6, 0, none⟩ = some (.string ⟨V.toArray⟩) ∧ w'.cell? ⟨g6, 1, none⟩ = some (.slice A5 k.length c5)) ∧ w'.cell? ⟨w.heap.size, 0, none⟩ = some (.int .i64 a) ∧ w'.cell? ⟨w.heap.size, 1, none⟩ = some (.string ⟨S.toArray⟩) ∧ w'.cell? ⟨w.heap.size, 2, none⟩ = some (.slice A l.length c) ∧ w'.cell? ⟨w.heap.size, 3, none⟩ = some (.string ⟨X.toArray⟩) ∧ w'.cell? ⟨w.heap.size, 4, none⟩ = some (.slice A2 m.length d))
          (first
            | (refine KB.out _ ?_; first | assumption | exact belowE_dr hb0)
            | (refine And.intro (two_far (K.out _ ?_).1.1 ZN.out.1 _ _ _ _ _) (five_cells (K.out _ ?_).2.2.1 ZN.out.2 _ _ _ _ _) <;> (first | assumption | exact belowE_dr hb0)))
          (first
            | (go_at_call 29; refine (TM.out _ ?_).mono ?_; (first | assumption | exact belowE_dr hb0); rintro e w5 ⟨A6, c6, rfl, rm, hbx, hby⟩; obtain ⟨⟨u0, u1, u2, u3, u4⟩, u5, u6, u7, u8, u9⟩ := ed_var (K.out _ hbx).2.2.2.2.1))
        all_goals go_wp2
        all_goals
          have E := edit_end a (K.out _ hbx).2.2.2.2.2 (K.out _ hbx).2.2.2.2.1 (by omega) (A := A6) (A2 := A5) (l := l) (m := k) (s := ⟨S.toArray⟩) (x := ⟨V.toArray⟩) (rm.out.now.toN (Nat.lt_succ_self _)) ((K.out _ hbx).2.1.toN (Nat.lt_succ_self _)) (.slice A6 l.length c6) (.slice A5 k.length c5)
          refine ret_edit rfl _ _ (w.heap.size + 1 + 1) _ _ _ _ _ rfl E.1 rfl ?_
          rw [HR.out]
          exact ⟨A6, c6, A5, c5, rfl, E.2.1, E.2.2.1, E.2.2.2⟩
      · have HR : Hid (joinE a S l X m b T q Y r = (⟨0, [], [], [], []⟩, false)) := by show _ = _; rw [HJ.out]; exact if_neg hn
        have hn' : ((n : Int) == 0) = false := by simp; omega
        clear hn
        go_wp2_with (go_at_call 20; refine (ediApply_any A2 A3 A4 d c3 d4 X m (b - a) T q Y r _ (HT.out _ K.out.now.2.2.2).2.1 (HT.out _ K.out.now.2.2.2).2.2.1 (HT.out _ K.out.now.2.2.2).2.2.2).mono ?_; rw [HP.out]; rintro e w4 ⟨A5, c5, rfl, own, bb⟩; dsimp only at own ⊢; have Z := K.out.now.2.2.1.lt; have Z2 := bb.size; replace K := Lib.hid (((K.out.step bb).own Z own).var (c := c5) (HOK.out.txt (Row.of_own own))); clear y0 y1 y2 y3 y4 z0 z1 z2 z3 z4 z5 z6 z7 z8 z9 u0 u1 u2 u3 u4 u5 u6 u7 u8 u9; clear own bb; obtain ⟨y0, y1, y2, y3, y4⟩ := ed_cells K.out.now.2.2.1; obtain ⟨⟨z0, z1, z2, z3, z4⟩, z5, z6, z7, z8, z9⟩ := ed_var K.out.now.2.2.2.1; obtain ⟨⟨u0, u1, u2, u3, u4⟩, u5, u6, u7, u8, u9⟩ := ed_var K.out.now.2.2.2.2.1; obtain ⟨v0, v1⟩ := txt_cells K.out.now.1.1)
        have E := edit_end (A := none) (A2 := none) (l := []) (m := []) (s := ⟨#[]⟩) (x := ⟨#[]⟩) 0 K.out.now.2.2.2.2.2 K.out.now.2.2.2.2.1 (by omega) (.inl rfl) (.inl rfl) (.slice none 0 0) (.slice none 0 0)
        refine ret_edit rfl _ _ (w.heap.size + 1 + 1) _ _ _ _ _ rfl E.1 rfl ?_
        rw [HR.out]
        exact ⟨none, 0, none, 0, rfl, E.2.1, E.2.2.1, E.2.2.2⟩
    · have HR : Hid (joinE a S l X m b T q Y r = (⟨0, [], [], [], []⟩, false)) := by show _ = _; unfold joinE; rw [if_neg (fun h => hg2 h.2)]
      rw [Bool.not_eq_true] at hg2
      go_enter Try.func22, Try.ntmps22
      go_wp2_with (first
        | (go_at_call_of 31 l; refine (ediGood_any A A2 c d a S X l m _ (HT.out _ K.out.now.2.2.2).1 (HT.out _ K.out.now.2.2.2).2.1).mono ?_; rw [hg]; rintro e w1 ⟨rfl, bb⟩; replace K := Lib.hid (K.out.step bb); clear y0 y1 y2 y3 y4 z0 z1 z2 z3 z4 z5 z6 z7 z8 z9 u0 u1 u2 u3 u4 u5 u6 u7 u8 u9; clear bb; obtain ⟨y0, y1, y2, y3, y4⟩ := ed_cells K.out.now.1; obtain ⟨⟨z0, z1, z2, z3, z4⟩, z5, z6, z7, z8, z9⟩ := ed_var K.out.now.2.1; obtain ⟨⟨u0, u1, u2, u3, u4⟩, u5, u6, u7, u8, u9⟩ := ed_var K.out.now.2.2.1)
        | (go_at_call_of 31 q; refine (ediGood_any A3 A4 c3 d4 b T Y q r _ (HT.out _ K.out.now.2.2.2).2.2.1 (HT.out _ K.out.now.2.2.2).2.2.2).mono ?_; rw [hg2]; rintro e w2 ⟨rfl, bb⟩; replace K := Lib.hid (K.out.step bb); clear y0 y1 y2 y3 y4 z0 z1 z2 z3 z4 z5 z6 z7 z8 z9 u0 u1 u2 u3 u4 u5 u6 u7 u8 u9; clear bb; obtain ⟨y0, y1, y2, y3, y4⟩ := ed_cells K.out.now.1; obtain ⟨⟨z0, z1, z2, z3, z4⟩, z5, z6, z7, z8, z9⟩ := ed_var K.out.now.2.1; obtain ⟨⟨u0, u1, u2, u3, u4⟩, u5, u6, u7, u8, u9⟩ := ed_var K.out.now.2.2.1))
      have E := edit_end (A := none) (A2 := none) (l := []) (m := []) (s := ⟨#[]⟩) (x := ⟨#[]⟩) 0 K.out.now.2.2.2 K.out.now.2.2.1 (by omega) (.inl rfl) (.inl rfl) (.slice none 0 0) (.slice none 0 0)
      refine ret_edit rfl _ _ (w.heap.size + 1 + 1) _ _ _ _ _ rfl E.1 rfl ?_
      rw [HR.out]
      exact ⟨none, 0, none, 0, rfl, E.2.1, E.2.2.1, E.2.2.2⟩
  · have HR : Hid (joinE a S l X m b T q Y r = (⟨0, [], [], [], []⟩, false)) := by show _ = _; unfold joinE; rw [if_neg (fun h => hg h.1)]
    rw [Bool.not_eq_true] at hg
    go_enter Try.func22, Try.ntmps22
    go_wp2_with (first
      | (go_at_call_of 31 l; refine (ediGood_any A A2 c d a S X l m _ (HT.out _ K.out.now.2.2.2).1 (HT.out _ K.out.now.2.2.2).2.1).mono ?_; rw [hg]; rintro e w1 ⟨rfl, bb⟩; replace K := Lib.hid (K.out.step bb); clear y0 y1 y2 y3 y4 z0 z1 z2 z3 z4 z5 z6 z7 z8 z9 u0 u1 u2 u3 u4 u5 u6 u7 u8 u9; clear bb; obtain ⟨y0, y1, y2, y3, y4⟩ := ed_cells K.out.now.1; obtain ⟨⟨z0, z1, z2, z3, z4⟩, z5, z6, z7, z8, z9⟩ := ed_var K.out.now.2.1; obtain ⟨⟨u0, u1, u2, u3, u4⟩, u5, u6, u7, u8, u9⟩ := ed_var K.out.now.2.2.1))
    have E := edit_end (A := none) (A2 := none) (l := []) (m := []) (s := ⟨#[]⟩) (x := ⟨#[]⟩) 0 K.out.now.2.2.2 K.out.now.2.2.1 (by omega) (.inl rfl) (.inl rfl) (.slice none 0 0) (.slice none 0 0)
    refine ret_edit rfl _ _ (w.heap.size + 1 + 1) _ _ _ _ _ rfl E.1 rfl ?_
    rw [HR.out]
    exact ⟨none, 0, none, 0, rfl, E.2.1, E.2.2.1, E.2.2.2⟩
end Go.Proofs.Ytmpliacojljchaa

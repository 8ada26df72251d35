/-
  What is hidden in texts stays hidden behind edits (over what edit says): layer 7.
-/
import Derived.Test.YtmpliacojljchaaEdiLawA
import Derived.Test.YtmpliacojljchaaStrLawH
namespace Go.Proofs.Ytmpliacojljchaa
open Go.RowKit

theorem like_of (S : List UInt8) (l : List RunP) (X : List UInt8) (m : List RunP) (y : Nat) (O : List UInt8) (f t : Int) : (ofE S l f t X m).2 = (ofE (otherOf S l y O) l f t (otherOf X m y O) m).2 := by
  have h1 := (like_cut S l y O f t).1
  have h2 := (like_splice S l X m y O f t).1
  unfold ofE
  rw [← h1]
  by_cases hc : (cutOf S l f t).2 = 0
  · rw [if_pos hc, if_pos hc, ← h2]
    by_cases hs : (spliceT S l f t X m).2 = 0
    · rw [if_pos hs, if_pos hs]
    · rw [if_neg hs, if_neg hs]
  · rw [if_neg hc, if_neg hc]

set_option maxRecDepth 8000 in
set_option maxHeartbeats 4000000 in
theorem editHides_walk (w : World) (A : Option Addr) (c : Nat) (S : List UInt8) (l : List RunP) (A2 : Option Addr) (d : Nat) (X : List UInt8) (m : List RunP) (O : List UInt8) (f t : Int) (x : Nat) (h : Txt w w.heap.size A S l) (hh : Txt w w.heap.size A2 X m) (hO : O.length ≤ maxLen)
    (_hf : -9223372036854775808 ≤ f ∧ f ≤ 9223372036854775807) (_ht : -9223372036854775808 ≤ t ∧ t ≤ 9223372036854775807) (_hx : x < 18446744073709551616) (y : Nat) (hy : y < 18446744073709551616) :
    Calls Try.prog 7 #[.agg #[.string ⟨S.toArray⟩, .slice A l.length c, .string ⟨X.toArray⟩, .slice A2 m.length d, .string ⟨O.toArray⟩, .int .i64 f, .int .i64 t, .int .u64 x], .int .u64 y] w fun e w' => e = .returned (.bool true) ∧ Below w.heap.size w w' := by
  have L := Lib.hid (And.intro h hh)
  have BX := Lib.hid ((blk_box (T := 51) (cs := #[.string ⟨S.toArray⟩, .slice A l.length c, .string ⟨X.toArray⟩, .slice A2 m.length d, .string ⟨O.toArray⟩, .int .i64 f, .int .i64 t, .int .u64 x]) w).and (bel_box (Below.refl w.heap.size w) (.cells #[.string ⟨S.toArray⟩, .slice A l.length c, .string ⟨X.toArray⟩, .slice A2 m.length d, .string ⟨O.toArray⟩, .int .i64 f, .int .i64 t, .int .u64 x] 51)))
  have K := Lib.hid (BX.out.and (((grow_txu h).and (grow_txu hh)).step BX.out.now.2))
  replace K : Hid (Grow _ (fun w' => Blk w' w.heap.size 51 #[.string ⟨S.toArray⟩, .slice A l.length c, .string ⟨X.toArray⟩, .slice A2 m.length d, .string ⟨O.toArray⟩, .int .i64 f, .int .i64 t, .int .u64 x] ∧ Below w.heap.size w w' ∧ Txu w' A S l ∧ Txu w' A2 X m)) := Lib.hid (fun w' hb => ⟨(K.out w' hb).1.1, (K.out w' hb).1.2, (K.out w' hb).2.1, (K.out w' hb).2.2⟩)
  clear h hh BX
  obtain ⟨y0, y1, y2, y3, y4, y5, y6, y7⟩ := hide_cells K.out.now.1
  by_cases hfit : S.length ≤ 5000 ∧ l.length ≤ 5000
  · by_cases hfit2 : X.length ≤ 5000 ∧ m.length ≤ 5000
    · by_cases hfit3 : O.length ≤ 5000
      · have H1 := Lib.hid (decide_eq_true hfit)
        have H2 := Lib.hid (decide_eq_true hfit2)
        have hm5 : m.length ≤ 5000 := hfit2.2
        clear hfit hfit2
        go_enter Try.func7, Try.ntmps7
        go_upto_region 5 with (first
          | (go_at_call 9; refine (ediAlive_any _).mono ?_; rintro e w1 ⟨rfl, bb⟩; replace K := Lib.hid (K.out.step bb); clear y0 y1 y2 y3 y4 y5 y6 y7; clear bb; obtain ⟨y0, y1, y2, y3, y4, y5, y6, y7⟩ := hide_cells K.out.now.1)
          | (go_at_call_of 10 l; refine (lawFits_any S L.out.1.hS l L.out.1.hl A c _).mono ?_; rw [H1.out]; rintro e w2 ⟨rfl, bb⟩; replace K := Lib.hid (K.out.step bb); clear y0 y1 y2 y3 y4 y5 y6 y7; clear bb; obtain ⟨y0, y1, y2, y3, y4, y5, y6, y7⟩ := hide_cells K.out.now.1)
          | (go_at_call_of 10 m; refine (lawFits_any X L.out.2.hS m L.out.2.hl A2 d _).mono ?_; rw [H2.out]; rintro e w3 ⟨rfl, bb⟩; replace K := Lib.hid (K.out.step bb); clear y0 y1 y2 y3 y4 y5 y6 y7; clear bb; obtain ⟨y0, y1, y2, y3, y4, y5, y6, y7⟩ := hide_cells K.out.now.1))
        have KS : Hid (∀ w', Below w3.heap.size w3 w' → (w'.cell? ⟨w.heap.size, 0, none⟩ = some (.string ⟨S.toArray⟩) ∧ w'.cell? ⟨w.heap.size, 1, none⟩ = some (.slice A l.length c) ∧ w'.cell? ⟨w.heap.size, 2, none⟩ = some (.string ⟨X.toArray⟩) ∧ w'.cell? ⟨w.heap.size, 3, none⟩ = some (.slice A2 m.length d) ∧ w'.cell? ⟨w.heap.size, 4, none⟩ = some (.string ⟨O.toArray⟩)) ∧ Below w3.heap.size w3 w') := Lib.hid (fun w' hb => ⟨by obtain ⟨a0, a1, a2, a3, a4, _⟩ := hide_cells (K.out w' hb).1; exact ⟨a0, a1, a2, a3, a4⟩, hb⟩)
        have z3 : w.heap.size < w3.heap.size := K.out.now.1.lt
        obtain ⟨S', hS'⟩ : ∃ S', otherOf S l y O = S' := ⟨_, rfl⟩
        obtain ⟨X', hX'⟩ : ∃ X', otherOf X m y O = X' := ⟨_, rfl⟩
        have HS' := Lib.hid hS'
        have HX' := Lib.hid hX'
        clear hS' hX' y5 y6 y7
        go_cut [5, 6] (fun s5 s6 wx => ∃ g1 g2 : Nat, s5 = .pointer (some ⟨g1, 0, none⟩) ∧ s6 = .pointer (some ⟨g2, 0, none⟩) ∧ Below w3.heap.size w3 wx ∧ Blk wx g1 24 #[.string ⟨S'.toArray⟩, .slice A l.length c] ∧ Blk wx g2 24 #[.string ⟨X'.toArray⟩, .slice A2 m.length d])
        case first =>
          have hb0 : Below w3.heap.size w3 w3 := Below.refl _ _
          have TL : Hid (∀ w', Below w3.heap.size w3 w' → Calls Try.prog 23 #[.agg #[.string ⟨S.toArray⟩, .slice A l.length c], .int .u64 y, .string ⟨O.toArray⟩] w' fun e w'' => e = .returned (.agg #[.string ⟨S'.toArray⟩, .slice A l.length c]) ∧ Below w3.heap.size w3 w'' ∧ Below w'.heap.size w' w'') := Lib.hid (fun w' hb => by
            have hz := hb.size
            refine (refTOther_any A c _ S l y hy O hO w' (Nat.le_refl _) ((K.out w' hb).2.2.1)).mono ?_
            rintro e w4 ⟨rfl, hb4⟩
            exact ⟨by rw [HS'.out], hb.trans (hb4.mono hz), hb4⟩)
          have TM : Hid (∀ w', Below w3.heap.size w3 w' → Calls Try.prog 23 #[.agg #[.string ⟨X.toArray⟩, .slice A2 m.length d], .int .u64 y, .string ⟨O.toArray⟩] w' fun e w'' => e = .returned (.agg #[.string ⟨X'.toArray⟩, .slice A2 m.length d]) ∧ Below w3.heap.size w3 w'' ∧ Below w'.heap.size w' w'') := Lib.hid (fun w' hb => by
            have hz := hb.size
            refine (refTOther_any A2 d _ X m y hy O hO w' (Nat.le_refl _) ((K.out w' hb).2.2.2)).mono ?_
            rintro e w4 ⟨rfl, hb4⟩
            exact ⟨by rw [HX'.out], hb.trans (hb4.mono hz), hb4⟩)
          go_region_held3 (fun w' => (w'.cell? ⟨w.heap.size, 0, none⟩ = some (.string ⟨S.toArray⟩) ∧ w'.cell? ⟨w.heap.size, 1, none⟩ = some (.slice A l.length c) ∧ w'.cell? ⟨w.heap.size, 2, none⟩ = some (.string ⟨X.toArray⟩) ∧ w'.cell? ⟨w.heap.size, 3, none⟩ = some (.slice A2 m.length d) ∧ w'.cell? ⟨w.heap.size, 4, none⟩ = some (.string ⟨O.toArray⟩)) ∧ Below w3.heap.size w3 w')
            ((refine KS.out _ ?_; (repeat (first | assumption | refine belowT_dr ?_ | refine belowT_al ?_ (Nat.le_refl _) | (refine Below.setCell ?_ ?_ _; rotate_left; (first | focus (simp; done) | focus (simp; omega))))); done))
            (first
              | (go_at_call_of 23 l; refine (TL.out _ ?_).mono ?_; (repeat (first | assumption | refine belowT_dr ?_ | refine belowT_al ?_ (Nat.le_refl _))); rintro e w4 ⟨rfl, hbx, hby⟩; have hzy := hbx.size; first | ((refine use_factT (knT_two_drew hby) ?_; intro a2; obtain ⟨⟨b1, b2⟩, ⟨b3, b4⟩, b5, b6, b7⟩ := knT_of a2.1; obtain ⟨⟨b8, b9⟩, ⟨b10, b11⟩, b12, b13, b14⟩ := knT_of a2.2; have A22 := Lib.hid a2; clear a2)) | ((refine use_factT (knT_one_drew hby) ?_; intro a1; obtain ⟨⟨b1, b2⟩, ⟨b3, b4⟩, b5, b6, b7⟩ := knT_of a1; have A1 := Lib.hid a1; clear a1)) | skip)
              | (go_at_call_of 23 m; refine (TM.out _ ?_).mono ?_; (repeat (first | assumption | refine belowT_dr ?_ | refine belowT_al ?_ (Nat.le_refl _))); rintro e w5 ⟨rfl, hbx, hby⟩; have hzy := hbx.size; (first | ((refine use_factT (knT_two hby) ?_; intro a2; obtain ⟨⟨b1, b2⟩, ⟨b3, b4⟩, b5, b6, b7⟩ := knT_of a2.1; obtain ⟨⟨b8, b9⟩, ⟨b10, b11⟩, b12, b13, b14⟩ := knT_of a2.2; have A3 := Lib.hid a2; clear a2)) | ((refine use_factT (knT_one hby) ?_; intro a1; obtain ⟨⟨b1, b2⟩, ⟨b3, b4⟩, b5, b6, b7⟩ := knT_of a1; have A4 := Lib.hid a1; clear a1)) | skip); (try (refine use_factT (blkT_step A1.out hby) ?_; intro a1; obtain ⟨⟨b1, b2⟩, ⟨b3, b4⟩, b5, b6, b7⟩ := knT_of a1; have A5 := Lib.hid a1; clear a1)); (try (refine use_factT (blkT_step (Blk.alloc A1.out _) hby) ?_; intro a1; obtain ⟨⟨b1, b2⟩, ⟨b3, b4⟩, b5, b6, b7⟩ := knT_of a1; have A5 := Lib.hid a1; clear a1)); (try (refine use_factT (blkT_step A22.out.1 hby) ?_; intro a1; obtain ⟨⟨b1, b2⟩, ⟨b3, b4⟩, b5, b6, b7⟩ := knT_of a1; have A6 := Lib.hid a1; clear a1)); (try (refine use_factT (blkT_step A22.out.2 hby) ?_; intro a1; obtain ⟨⟨b1, b2⟩, ⟨b3, b4⟩, b5, b6, b7⟩ := knT_of a1; have A7 := Lib.hid a1; clear a1))))
          all_goals go_wp2_with fail
          all_goals go_meet
          all_goals
            refine ⟨_, _, rfl, rfl, ?_, ?_, ?_⟩
            · repeat (first | assumption | refine belowT_dr ?_ | refine belowT_al ?_ (Nat.le_refl _) | (refine Below.setCell ?_ ?_ _; rotate_left; (first | focus (simp; done) | focus (simp; omega))))
            · repeat (first
                | with_reducible exact Blk.new _ _ _
                | with_reducible exact blkT_new1 _ _ _ _
                | with_reducible exact blkT_newS _ _ _ _ _ _ _
                | with_reducible exact A3.out.1
                | with_reducible exact A3.out.2
                | with_reducible exact A4.out
                | with_reducible exact A5.out
                | with_reducible exact A6.out
                | with_reducible exact A7.out
                | with_reducible refine blk_two (u := .string ⟨#[]⟩) (v := .slice none 0 0) ?_ _ _
                | with_reducible refine Blk.alloc ?_ _
                | (with_reducible refine Blk.far ?_ ?_ _; rotate_left; (first | focus (simp; done) | focus (simp; omega) | focus (show _ ≠ _; omega))))
            · repeat (first
                | with_reducible exact Blk.new _ _ _
                | with_reducible exact blkT_new1 _ _ _ _
                | with_reducible exact blkT_newS _ _ _ _ _ _ _
                | with_reducible exact A3.out.1
                | with_reducible exact A3.out.2
                | with_reducible exact A4.out
                | with_reducible exact A5.out
                | with_reducible exact A6.out
                | with_reducible exact A7.out
                | with_reducible refine blk_two (u := .string ⟨#[]⟩) (v := .slice none 0 0) ?_ _ _
                | with_reducible refine Blk.alloc ?_ _
                | (with_reducible refine Blk.far ?_ ?_ _; rotate_left; (first | focus (simp; done) | focus (simp; omega) | focus (show _ ≠ _; omega))))
        case rest =>
          obtain ⟨g1, g2, rfl, rfl, hbc, n1, n2⟩ := hcut
          have T3 : Hid (Grow wc (fun w' => Txu w' A S' l ∧ Txu w' A2 X' m)) := (grow_txu ⟨by rw [← HS'.out, otherOf_len]; exact L.out.1.hS, L.out.1.hf, L.out.1.hl, (K.out wc hbc).2.2.1.row⟩).and (grow_txu ⟨by rw [← HX'.out, otherOf_len]; exact L.out.2.hS, L.out.2.hf, L.out.2.hl, (K.out wc hbc).2.2.2.row⟩)
          replace K := Lib.hid ((K.out.step hbc).and (T3.out.and ((grow_blk n1).and (grow_blk n2))))
          replace K : Hid (Grow wc (fun w' => (Blk w' w.heap.size 51 #[.string ⟨S.toArray⟩, .slice A l.length c, .string ⟨X.toArray⟩, .slice A2 m.length d, .string ⟨O.toArray⟩, .int .i64 f, .int .i64 t, .int .u64 x] ∧ Below w.heap.size w w' ∧ Txu w' A S l ∧ Txu w' A2 X m) ∧ (Txu w' A S' l ∧ Txu w' A2 X' m) ∧ Blk w' g1 24 #[.string ⟨S'.toArray⟩, .slice A l.length c] ∧ Blk w' g2 24 #[.string ⟨X'.toArray⟩, .slice A2 m.length d])) := K
          clear T3 hbc n1 n2 KS y0 y1 y2 y3 y4 z3
          obtain ⟨p1, hp1⟩ : ∃ p, ofE S l f t X m = p := ⟨_, rfl⟩
          obtain ⟨p2, hp2⟩ : ∃ p, ofE S' l f t X' m = p := ⟨_, rfl⟩
          have O1 : Hid (OkE p1.1) := by show OkE _; rw [← hp1]; exact okE_of ⟨L.out.1.hS, L.out.1.hf, L.out.1.hl⟩ ⟨L.out.2.hS, L.out.2.hf, L.out.2.hl⟩ f t
          have O2 : Hid (OkE p2.1) := by show OkE _; rw [← hp2]; exact okE_of ⟨K.out.now.2.1.1.hS, L.out.1.hf, L.out.1.hl⟩ ⟨K.out.now.2.1.2.hS, L.out.2.hf, L.out.2.hl⟩ f t
          have hn : p1.2 = p2.2 := by rw [← hp1, ← hp2, ← HS'.out, ← HX'.out]; exact like_of S l X m y O f t
          have P1 := Lib.hid hp1
          have P2 := Lib.hid hp2
          clear hp1 hp2
          obtain ⟨⟨a1, U1, q1, V1, r1⟩, n1⟩ := p1
          obtain ⟨⟨a2, U2, q2, V2, r2⟩, n2⟩ := p2
          dsimp only at hn
          subst hn
          obtain ⟨y0, y1, y2, y3, y4, y5, y6, y7⟩ := hide_cells K.out.now.1.1
          obtain ⟨t0, t1⟩ := txt_cells K.out.now.2.2.1
          obtain ⟨t2, t3⟩ := txt_cells K.out.now.2.2.2
          by_cases h1 : n1 = 0
          · subst h1
            have E1 := Lib.hid (of_apply P1.out)
            have E2 := Lib.hid (of_apply P2.out)
            obtain ⟨p3, hp3⟩ : ∃ p, spliceT S l f t X m = p := ⟨_, rfl⟩
            obtain ⟨p4, hp4⟩ : ∃ p, spliceT S' l f t X' m = p := ⟨_, rfl⟩
            have O3 : Hid (OkT p3) := by show OkT _; rw [← hp3]; exact okT_splice L.out.1.hf L.out.2.hf f t
            have O4 : Hid (OkT p4) := by show OkT _; rw [← hp4]; exact okT_splice L.out.1.hf L.out.2.hf f t
            obtain ⟨⟨W3, i3⟩, n3⟩ := p3
            obtain ⟨⟨W4, i4⟩, n4⟩ := p4
            obtain rfl : n3 = 0 := by have e := E1.out.2.2.2.2.2; rw [hp3] at e; exact e
            obtain rfl : n4 = 0 := by have e := E2.out.2.2.2.2.2; rw [hp4] at e; exact e
            have LW : Hid (lowT W3 W4 i3 i4 y = true) := by
              show _ = _
              have e := (like_splice S l X m y O f t).2 E1.out.2.2.2.2.2
              rw [HS'.out, HX'.out, hp3, hp4] at e
              exact e
            have LC : Hid (lowT U1 U2 q1 q2 y = true) := by
              show _ = _
              have e := (like_cut S l y O f t).2 (by rw [E1.out.2.2.2.1])
              rw [HS'.out, E1.out.2.2.2.1, E2.out.2.2.2.1] at e
              exact e
            have P3 : Hid (applyE S l a1 U1 q1 V1 r1 = ((W3, i3), 0)) := E1.out.2.2.2.2.1.trans hp3
            have P4 : Hid (applyE S' l a2 U2 q2 V2 r2 = ((W4, i4), 0)) := E2.out.2.2.2.2.1.trans hp4
            clear hp3 hp4 E1 E2 HS' HX'
            go_wp2_with (first
              | (go_at_call_of 11 S; refine (ediOf_any A A2 c d S l f t X m (by omega) _ K.out.now.1.2.2.1 K.out.now.1.2.2.2).mono ?_; rw [P1.out]; rintro e v1 ⟨A3, c3, A4, c4, rfl, ra, rb, bb⟩; dsimp only at ra rb ⊢; replace K := Lib.hid ((K.out.step bb).evar (a := a1) (c := c3) (d := c4) (O1.out.1 _ _ ra) (O1.out.2 _ _ rb)); clear y0 y1 y2 y3 y4 y5 y6 y7 t0 t1 t2 t3; clear bb ra rb; obtain ⟨y0, y1, y2, y3, y4, y5, y6, y7⟩ := hide_cells K.out.now.2.1.1; obtain ⟨t0, t1⟩ := txt_cells K.out.now.2.2.2.1; obtain ⟨t2, t3⟩ := txt_cells K.out.now.2.2.2.2)
              | (go_at_call_of 11 S'; refine (ediOf_any A A2 c d S' l f t X' m (by omega) _ K.out.now.2.2.1.1 K.out.now.2.2.1.2).mono ?_; rw [P2.out]; rintro e v2 ⟨A5, c5, A6, c6, rfl, ra, rb, bb⟩; dsimp only at ra rb ⊢; replace K := Lib.hid ((K.out.step bb).evar (a := a2) (c := c5) (d := c6) (O2.out.1 _ _ ra) (O2.out.2 _ _ rb)); clear y0 y1 y2 y3 y4 y5 y6 y7 t0 t1 t2 t3; clear bb ra rb; obtain ⟨y0, y1, y2, y3, y4, y5, y6, y7⟩ := hide_cells K.out.now.2.2.1.1; obtain ⟨t0, t1⟩ := txt_cells K.out.now.2.2.2.2.1; obtain ⟨t2, t3⟩ := txt_cells K.out.now.2.2.2.2.2; obtain ⟨e0, e1, e2, e3, e4⟩ := ed_cells K.out.now.2.1.1; obtain ⟨k0, k1, k2, k3, k4⟩ := ed_cells K.out.now.1.1)
              | (go_at_call_of 20 S; refine (ediApply_any A A3 A4 c c3 c4 S l a1 U1 q1 V1 r1 _ K.out.now.2.2.1.2.2.1 K.out.now.2.1.2.1 K.out.now.2.1.2.2).mono ?_; rw [P3.out]; rintro e v3 ⟨A7, c7, rfl, own, bb⟩; dsimp only at own ⊢; replace K := Lib.hid ((K.out.step bb).var (c := c7) (O3.out.txt (Row.of_own own))); clear y0 y1 y2 y3 y4 y5 y6 y7 t0 t1 t2 t3 e0 e1 e2 e3 e4 k0 k1 k2 k3 k4; clear bb own; obtain ⟨y0, y1, y2, y3, y4, y5, y6, y7⟩ := hide_cells K.out.now.2.2.2.1.1; obtain ⟨t0, t1⟩ := txt_cells K.out.now.2.2.2.2.2.1; obtain ⟨t2, t3⟩ := txt_cells K.out.now.2.2.2.2.2.2; obtain ⟨e0, e1, e2, e3, e4⟩ := ed_cells K.out.now.2.2.1.1; obtain ⟨k0, k1, k2, k3, k4⟩ := ed_cells K.out.now.2.1.1)
              | (go_at_call_of 20 S'; refine (ediApply_any A A5 A6 c c5 c6 S' l a2 U2 q2 V2 r2 _ K.out.now.2.2.2.2.1.1 K.out.now.2.1.2.1 K.out.now.2.1.2.2).mono ?_; rw [P4.out]; rintro e v4 ⟨A8, c8, rfl, own, bb⟩; dsimp only at own ⊢; replace K := Lib.hid ((K.out.step bb).var (c := c8) (O4.out.txt (Row.of_own own))); clear y0 y1 y2 y3 y4 y5 y6 y7 t0 t1 t2 t3 e0 e1 e2 e3 e4 k0 k1 k2 k3 k4; clear bb own; obtain ⟨e0, e1, e2, e3, e4⟩ := ed_cells K.out.now.2.2.2.1.1; obtain ⟨k0, k1, k2, k3, k4⟩ := ed_cells K.out.now.2.2.1.1; obtain ⟨t0, t1⟩ := txt_cells K.out.now.1.1; obtain ⟨t2, t3⟩ := txt_cells K.out.now.2.1.1)
              | (go_at_call_of 24 W3; refine (refTLow_any A7 A8 c7 c8 _ _ W3 W4 i3 i4 y hy _ (Nat.le_refl _) (Nat.le_refl _) K.out.now.2.1.2 K.out.now.1.2).mono ?_; rw [LW.out]; rintro e v5 ⟨rfl, bb⟩; replace K := Lib.hid (K.out.step bb); clear bb t0 t1 t2 t3 e0 e1 e2 e3 e4 k0 k1 k2 k3 k4; obtain ⟨e0, e1, e2, e3, e4⟩ := ed_cells K.out.now.2.2.2.1.1; obtain ⟨k0, k1, k2, k3, k4⟩ := ed_cells K.out.now.2.2.1.1)
              | (go_at_call_of 24 U1; refine (refTLow_any A3 A5 c3 c5 _ _ U1 U2 q1 q2 y hy _ (Nat.le_refl _) (Nat.le_refl _) K.out.now.2.2.2.1.2.1 K.out.now.2.2.1.2.1).mono ?_; rw [LC.out]; rintro e v6 ⟨rfl, bb⟩; replace K := Lib.hid (K.out.step bb); clear bb e0 e1 e2 e3 e4 k0 k1 k2 k3 k4))
            go_ret
            exact ⟨rfl, K.out.now.2.2.2.2.1.2.1⟩
          · have h1' : ((n1 : Int) == 0) = false := by simp; omega
            go_wp2_with (first
              | (go_at_call_of 11 S; refine (ediOf_any A A2 c d S l f t X m (by omega) _ K.out.now.1.2.2.1 K.out.now.1.2.2.2).mono ?_; rw [P1.out]; rintro e v1 ⟨A3, c3, A4, c4, rfl, ra, rb, bb⟩; dsimp only at ra rb ⊢; replace K := Lib.hid ((K.out.step bb).evar (a := a1) (c := c3) (d := c4) (O1.out.1 _ _ ra) (O1.out.2 _ _ rb)); clear y0 y1 y2 y3 y4 y5 y6 y7 t0 t1 t2 t3; clear bb ra rb; obtain ⟨y0, y1, y2, y3, y4, y5, y6, y7⟩ := hide_cells K.out.now.2.1.1; obtain ⟨t0, t1⟩ := txt_cells K.out.now.2.2.2.1; obtain ⟨t2, t3⟩ := txt_cells K.out.now.2.2.2.2)
              | (go_at_call_of 11 S'; refine (ediOf_any A A2 c d S' l f t X' m (by omega) _ K.out.now.2.2.1.1 K.out.now.2.2.1.2).mono ?_; rw [P2.out]; rintro e v2 ⟨A5, c5, A6, c6, rfl, ra, rb, bb⟩; dsimp only at ra rb ⊢; replace K := Lib.hid ((K.out.step bb).evar (a := a2) (c := c5) (d := c6) (O2.out.1 _ _ ra) (O2.out.2 _ _ rb)); clear y0 y1 y2 y3 y4 y5 y6 y7 t0 t1 t2 t3; clear bb ra rb; obtain ⟨y0, y1, y2, y3, y4, y5, y6, y7⟩ := hide_cells K.out.now.2.2.1.1; obtain ⟨t0, t1⟩ := txt_cells K.out.now.2.2.2.2.1; obtain ⟨t2, t3⟩ := txt_cells K.out.now.2.2.2.2.2; obtain ⟨e0, e1, e2, e3, e4⟩ := ed_cells K.out.now.2.1.1; obtain ⟨k0, k1, k2, k3, k4⟩ := ed_cells K.out.now.1.1))
            all_goals first
              | (exfalso; omega)
              | (go_ret; exact ⟨by first | rfl | (simp; done), K.out.now.2.2.1.2.1⟩)
      · have H1 := Lib.hid (decide_eq_true hfit)
        have H2 := Lib.hid (decide_eq_true hfit2)
        clear hfit hfit2
        go_enter Try.func7, Try.ntmps7
        go_wp2_with (first
          | (go_at_call 9; refine (ediAlive_any _).mono ?_; rintro e w1 ⟨rfl, bb⟩; replace K := Lib.hid (K.out.step bb); clear y0 y1 y2 y3 y4 y5 y6 y7; clear bb; obtain ⟨y0, y1, y2, y3, y4, y5, y6, y7⟩ := hide_cells K.out.now.1)
          | (go_at_call_of 10 l; refine (lawFits_any S L.out.1.hS l L.out.1.hl A c _).mono ?_; rw [H1.out]; rintro e w2 ⟨rfl, bb⟩; replace K := Lib.hid (K.out.step bb); clear y0 y1 y2 y3 y4 y5 y6 y7; clear bb; obtain ⟨y0, y1, y2, y3, y4, y5, y6, y7⟩ := hide_cells K.out.now.1)
          | (go_at_call_of 10 m; refine (lawFits_any X L.out.2.hS m L.out.2.hl A2 d _).mono ?_; rw [H2.out]; rintro e w3 ⟨rfl, bb⟩; replace K := Lib.hid (K.out.step bb); clear y0 y1 y2 y3 y4 y5 y6 y7; clear bb; obtain ⟨y0, y1, y2, y3, y4, y5, y6, y7⟩ := hide_cells K.out.now.1))
        go_ret
        exact ⟨by first | rfl | (simp; done), K.out.now.2.1⟩
    · have H1 := Lib.hid (decide_eq_true hfit)
      have H2 := Lib.hid (decide_eq_false hfit2)
      clear hfit hfit2
      go_enter Try.func7, Try.ntmps7
      go_wp2_with (first
        | (go_at_call 9; refine (ediAlive_any _).mono ?_; rintro e w1 ⟨rfl, bb⟩; replace K := Lib.hid (K.out.step bb); clear y0 y1 y2 y3 y4 y5 y6 y7; clear bb; obtain ⟨y0, y1, y2, y3, y4, y5, y6, y7⟩ := hide_cells K.out.now.1)
        | (go_at_call_of 10 l; refine (lawFits_any S L.out.1.hS l L.out.1.hl A c _).mono ?_; rw [H1.out]; rintro e w2 ⟨rfl, bb⟩; replace K := Lib.hid (K.out.step bb); clear y0 y1 y2 y3 y4 y5 y6 y7; clear bb; obtain ⟨y0, y1, y2, y3, y4, y5, y6, y7⟩ := hide_cells K.out.now.1)
        | (go_at_call_of 10 m; refine (lawFits_any X L.out.2.hS m L.out.2.hl A2 d _).mono ?_; rw [H2.out]; rintro e w3 ⟨rfl, bb⟩; replace K := Lib.hid (K.out.step bb); clear y0 y1 y2 y3 y4 y5 y6 y7; clear bb; obtain ⟨y0, y1, y2, y3, y4, y5, y6, y7⟩ := hide_cells K.out.now.1))
      go_ret
      exact ⟨rfl, K.out.now.2.1⟩
  · have H1 := Lib.hid (decide_eq_false hfit)
    clear hfit
    go_enter Try.func7, Try.ntmps7
    go_wp2_with (first
      | (go_at_call 9; refine (ediAlive_any _).mono ?_; rintro e w1 ⟨rfl, bb⟩; replace K := Lib.hid (K.out.step bb); clear y0 y1 y2 y3 y4 y5 y6 y7; clear bb; obtain ⟨y0, y1, y2, y3, y4, y5, y6, y7⟩ := hide_cells K.out.now.1)
      | (go_at_call_of 10 l; refine (lawFits_any S L.out.1.hS l L.out.1.hl A c _).mono ?_; rw [H1.out]; rintro e w2 ⟨rfl, bb⟩; replace K := Lib.hid (K.out.step bb); clear y0 y1 y2 y3 y4 y5 y6 y7; clear bb; obtain ⟨y0, y1, y2, y3, y4, y5, y6, y7⟩ := hide_cells K.out.now.1))
    go_ret
    exact ⟨rfl, K.out.now.2.1⟩
end Go.Proofs.Ytmpliacojljchaa

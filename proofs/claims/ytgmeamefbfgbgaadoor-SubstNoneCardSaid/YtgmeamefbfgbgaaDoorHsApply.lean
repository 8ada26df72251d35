/-
  Contracts of the document's own answers, layer 7: Check, Apply (asked by layer 8).
-/
import Derived.Test.YtgmeamefbfgbgaaDoorM07e
import Derived.Test.YtgmeamefbfgbgaaDoorM04
namespace Go.Proofs.YtgmeamefbfgbgaaDoor
set_option maxRecDepth 100000
open Go.RowKit

set_option maxHeartbeats 2000000 in
theorem refECheck_any (A A2 A3 : Option Addr) (c d d3 : Nat) (S : List UInt8) (l : List RunP) (a : Int) (U : List UInt8) (q : List RunP) (X : List UInt8) (m : List RunP) (w : World) (h : Txu w A S l) (hU : Txu w A2 U q) (hX : Txu w A3 X m) :
    Calls Tryd.prog 40 #[.agg #[.string ⟨S.toArray⟩, .slice A l.length c], .agg #[.int .i64 a, .string ⟨U.toArray⟩, .slice A2 q.length d, .string ⟨X.toArray⟩, .slice A3 m.length d3]] w fun e w' => e = .returned (.int .i64 ((applyE S l a U q X m).2 : Nat)) ∧ Below w.heap.size w w' := by
  have FL := Lib.hid h.hf
  have BX := Lib.hid (boxesE2 w 24 32 #[.string ⟨S.toArray⟩, .slice A l.length c] #[.int .i64 a, .string ⟨U.toArray⟩, .slice A2 q.length d, .string ⟨X.toArray⟩, .slice A3 m.length d3])
  have K := Lib.hid (BX.out.and (((grow_txu h).and ((grow_txu hU).and (grow_txu hX))).step BX.out.now.2.2))
  clear h hU hX BX
  obtain ⟨y0, y1⟩ := txt_cells K.out.now.1.1; obtain ⟨z0, z1, z2, z3, z4⟩ := ed_cells K.out.now.1.2.1
  by_cases hS : goodT S l = true
  · have s1 : S.length ≤ 4096 := (goodT_size hS).1
    by_cases hg : goodE a U q X m = true
    · obtain ⟨gU, gX, ha0, ha1⟩ := (goodE_iff a U X q m).1 hg
      have hu : U.length ≤ 4096 := (goodT_size gU).1
      have hx : X.length ≤ 4096 := (goodT_size gX).1
      by_cases hl : (S.length : Int) - a < (U.length : Int)
      · have HR : Hid ((applyE S l a U q X m).2 = 2) := by
          show _ = _
          have hw : ¬ withinT S l a (a + (U.length : Int)) = true := fun h => by have := (withinT_of h).2.2.2; omega
          unfold applyE; rw [if_pos hg]; unfold cutOf; rw [if_neg hw]; rfl
        go_enter Tryd.func40, Tryd.ntmps40
        go_wp2_with (first
          | (go_at_call 20; refine (refTGood_any A c _ S l _ (Nat.le_refl _) K.out.now.2.1).mono ?_; rw [hS]; rintro e w1 ⟨rfl, bb⟩; replace K := Lib.hid (K.out.step bb); clear y0 y1 z0 z1 z2 z3 z4; clear bb; obtain ⟨y0, y1⟩ := txt_cells K.out.now.1.1; obtain ⟨z0, z1, z2, z3, z4⟩ := ed_cells K.out.now.1.2.1)
          | (go_at_call 71; refine (refEGood_any A2 A3 d d3 a U X q m _ K.out.now.2.2.1 K.out.now.2.2.2).mono ?_; rw [hg]; rintro e w2 ⟨rfl, bb⟩; replace K := Lib.hid (K.out.step bb); clear y0 y1 z0 z1 z2 z3 z4; clear bb; obtain ⟨y0, y1⟩ := txt_cells K.out.now.1.1; obtain ⟨z0, z1, z2, z3, z4⟩ := ed_cells K.out.now.1.2.1))
        all_goals go_ret
        all_goals exact ⟨by rw [HR.out]; rfl, K.out.now.1.2.2⟩
      · have hw : withinT S l a (a + (U.length : Int)) = true := (withinT_iff _ _ _ _).2 ⟨hS, ha0, by omega, by omega⟩
        obtain ⟨p, hp⟩ : ∃ p, cutOf S l a (a + (U.length : Int)) = p := ⟨_, rfl⟩
        have HOK : Hid (OkT p) := by show OkT _; rw [← hp]; exact okT_cut FL.out _ _
        have hp2 : p.2 = 0 := by rw [← hp]; unfold cutOf; rw [if_pos hw]
        have HP := Lib.hid hp
        clear hp
        obtain ⟨⟨V, r⟩, n⟩ := p
        dsimp only at hp2
        subst hp2
        by_cases hs : V = U ∧ r = q
        · have HR0 : applyE S l a U q X m = spliceT S l a (a + (U.length : Int)) X m := by unfold applyE; rw [if_pos hg, HP.out]; dsimp only; rw [if_pos rfl, if_pos ⟨hs.1.symm, hs.2.symm⟩]
          have H3 := Lib.hid (decide_eq_true hs)
          clear hs
          by_cases hb : (S.length : Int) - (a + (U.length : Int) - a) + (X.length : Int) ≤ 4096
          · have HR : Hid ((applyE S l a U q X m).2 = 0) := by show _ = _; rw [HR0, spliceT_ok hw gX hb]
            have hb' : ¬ (4096 : Int) < (S.length : Int) - (U.length : Int) + (X.length : Int) := by omega
            clear HR0 hw gU gX
            go_enter Tryd.func40, Tryd.ntmps40
            go_wp2_with (first
              | (go_at_call 20; refine (refTGood_any A c _ S l _ (Nat.le_refl _) K.out.now.2.1).mono ?_; rw [hS]; rintro e w1 ⟨rfl, bb⟩; replace K := Lib.hid (K.out.step bb); clear y0 y1 z0 z1 z2 z3 z4; clear bb; obtain ⟨y0, y1⟩ := txt_cells K.out.now.1.1; obtain ⟨z0, z1, z2, z3, z4⟩ := ed_cells K.out.now.1.2.1)
              | (go_at_call 71; refine (refEGood_any A2 A3 d d3 a U X q m _ K.out.now.2.2.1 K.out.now.2.2.2).mono ?_; rw [hg]; rintro e w2 ⟨rfl, bb⟩; replace K := Lib.hid (K.out.step bb); clear y0 y1 z0 z1 z2 z3 z4; clear bb; obtain ⟨y0, y1⟩ := txt_cells K.out.now.1.1; obtain ⟨z0, z1, z2, z3, z4⟩ := ed_cells K.out.now.1.2.1)
              | (go_at_call 36; refine (refTCut_any A c _ S l a (a + (U.length : Int)) _ (Nat.le_refl _) K.out.now.2.1).mono ?_; rw [HP.out]; rintro e w3 ⟨A4, c4, rfl, own, bb⟩; dsimp only at own ⊢; replace K := Lib.hid ((K.out.step bb).var (c := c4) (HOK.out.txt (Row.of_own own))); clear y0 y1 z0 z1 z2 z3 z4; clear own bb; obtain ⟨y0, y1⟩ := txt_cells K.out.now.2.1.1; obtain ⟨z0, z1, z2, z3, z4⟩ := ed_cells K.out.now.2.1.2.1; obtain ⟨v0, v1⟩ := txt_cells K.out.now.1.1)
              | (go_at_call 39; refine (refTSame_any A4 A2 c4 d _ _ V U r q _ (Nat.le_refl _) (Nat.le_refl _) K.out.now.1.2 K.out.now.2.2.2.1).mono ?_; rw [H3.out]; rintro e w4 ⟨rfl, bb⟩; replace K := Lib.hid (K.out.step bb); clear y0 y1 z0 z1 z2 z3 z4; clear bb v0 v1; obtain ⟨y0, y1⟩ := txt_cells K.out.now.2.1.1; obtain ⟨z0, z1, z2, z3, z4⟩ := ed_cells K.out.now.2.1.2.1))
            all_goals go_ret
            all_goals exact ⟨by rw [HR.out]; rfl, K.out.now.2.1.2.2⟩
          · have HR : Hid ((applyE S l a U q X m).2 = 3) := by show _ = _; rw [HR0, spliceT_big hw gX hb]
            have hb' : (4096 : Int) < (S.length : Int) - (U.length : Int) + (X.length : Int) := by omega
            clear HR0 hw gU gX
            go_enter Tryd.func40, Tryd.ntmps40
            go_wp2_with (first
              | (go_at_call 20; refine (refTGood_any A c _ S l _ (Nat.le_refl _) K.out.now.2.1).mono ?_; rw [hS]; rintro e w1 ⟨rfl, bb⟩; replace K := Lib.hid (K.out.step bb); clear y0 y1 z0 z1 z2 z3 z4; clear bb; obtain ⟨y0, y1⟩ := txt_cells K.out.now.1.1; obtain ⟨z0, z1, z2, z3, z4⟩ := ed_cells K.out.now.1.2.1)
              | (go_at_call 71; refine (refEGood_any A2 A3 d d3 a U X q m _ K.out.now.2.2.1 K.out.now.2.2.2).mono ?_; rw [hg]; rintro e w2 ⟨rfl, bb⟩; replace K := Lib.hid (K.out.step bb); clear y0 y1 z0 z1 z2 z3 z4; clear bb; obtain ⟨y0, y1⟩ := txt_cells K.out.now.1.1; obtain ⟨z0, z1, z2, z3, z4⟩ := ed_cells K.out.now.1.2.1)
              | (go_at_call 36; refine (refTCut_any A c _ S l a (a + (U.length : Int)) _ (Nat.le_refl _) K.out.now.2.1).mono ?_; rw [HP.out]; rintro e w3 ⟨A4, c4, rfl, own, bb⟩; dsimp only at own ⊢; replace K := Lib.hid ((K.out.step bb).var (c := c4) (HOK.out.txt (Row.of_own own))); clear y0 y1 z0 z1 z2 z3 z4; clear own bb; obtain ⟨y0, y1⟩ := txt_cells K.out.now.2.1.1; obtain ⟨z0, z1, z2, z3, z4⟩ := ed_cells K.out.now.2.1.2.1; obtain ⟨v0, v1⟩ := txt_cells K.out.now.1.1)
              | (go_at_call 39; refine (refTSame_any A4 A2 c4 d _ _ V U r q _ (Nat.le_refl _) (Nat.le_refl _) K.out.now.1.2 K.out.now.2.2.2.1).mono ?_; rw [H3.out]; rintro e w4 ⟨rfl, bb⟩; replace K := Lib.hid (K.out.step bb); clear y0 y1 z0 z1 z2 z3 z4; clear bb v0 v1; obtain ⟨y0, y1⟩ := txt_cells K.out.now.2.1.1; obtain ⟨z0, z1, z2, z3, z4⟩ := ed_cells K.out.now.2.1.2.1))
            all_goals go_ret
            all_goals exact ⟨by rw [HR.out]; rfl, K.out.now.2.1.2.2⟩
        · have HR : Hid ((applyE S l a U q X m).2 = 7) := by show _ = _; unfold applyE; rw [if_pos hg, HP.out]; dsimp only; rw [if_pos rfl, if_neg (fun h => hs ⟨h.1.symm, h.2.symm⟩)]
          have H3 := Lib.hid (decide_eq_false hs)
          clear hs hw gU gX
          go_enter Tryd.func40, Tryd.ntmps40
          go_wp2_with (first
            | (go_at_call 20; refine (refTGood_any A c _ S l _ (Nat.le_refl _) K.out.now.2.1).mono ?_; rw [hS]; rintro e w1 ⟨rfl, bb⟩; replace K := Lib.hid (K.out.step bb); clear y0 y1 z0 z1 z2 z3 z4; clear bb; obtain ⟨y0, y1⟩ := txt_cells K.out.now.1.1; obtain ⟨z0, z1, z2, z3, z4⟩ := ed_cells K.out.now.1.2.1)
            | (go_at_call 71; refine (refEGood_any A2 A3 d d3 a U X q m _ K.out.now.2.2.1 K.out.now.2.2.2).mono ?_; rw [hg]; rintro e w2 ⟨rfl, bb⟩; replace K := Lib.hid (K.out.step bb); clear y0 y1 z0 z1 z2 z3 z4; clear bb; obtain ⟨y0, y1⟩ := txt_cells K.out.now.1.1; obtain ⟨z0, z1, z2, z3, z4⟩ := ed_cells K.out.now.1.2.1)
            | (go_at_call 36; refine (refTCut_any A c _ S l a (a + (U.length : Int)) _ (Nat.le_refl _) K.out.now.2.1).mono ?_; rw [HP.out]; rintro e w3 ⟨A4, c4, rfl, own, bb⟩; dsimp only at own ⊢; replace K := Lib.hid ((K.out.step bb).var (c := c4) (HOK.out.txt (Row.of_own own))); clear y0 y1 z0 z1 z2 z3 z4; clear own bb; obtain ⟨y0, y1⟩ := txt_cells K.out.now.2.1.1; obtain ⟨z0, z1, z2, z3, z4⟩ := ed_cells K.out.now.2.1.2.1; obtain ⟨v0, v1⟩ := txt_cells K.out.now.1.1)
            | (go_at_call 39; refine (refTSame_any A4 A2 c4 d _ _ V U r q _ (Nat.le_refl _) (Nat.le_refl _) K.out.now.1.2 K.out.now.2.2.2.1).mono ?_; rw [H3.out]; rintro e w4 ⟨rfl, bb⟩; replace K := Lib.hid (K.out.step bb); clear y0 y1 z0 z1 z2 z3 z4; clear bb v0 v1; obtain ⟨y0, y1⟩ := txt_cells K.out.now.2.1.1; obtain ⟨z0, z1, z2, z3, z4⟩ := ed_cells K.out.now.2.1.2.1))
          all_goals go_ret
          all_goals exact ⟨by rw [HR.out]; rfl, K.out.now.2.1.2.2⟩
    · have HR : Hid ((applyE S l a U q X m).2 = 2) := by show _ = _; unfold applyE; rw [if_neg hg]
      rw [Bool.not_eq_true] at hg
      go_enter Tryd.func40, Tryd.ntmps40
      go_wp2_with (first
        | (go_at_call 20; refine (refTGood_any A c _ S l _ (Nat.le_refl _) K.out.now.2.1).mono ?_; rw [hS]; rintro e w1 ⟨rfl, bb⟩; replace K := Lib.hid (K.out.step bb); clear y0 y1 z0 z1 z2 z3 z4; clear bb; obtain ⟨y0, y1⟩ := txt_cells K.out.now.1.1; obtain ⟨z0, z1, z2, z3, z4⟩ := ed_cells K.out.now.1.2.1)
        | (go_at_call 71; refine (refEGood_any A2 A3 d d3 a U X q m _ K.out.now.2.2.1 K.out.now.2.2.2).mono ?_; rw [hg]; rintro e w2 ⟨rfl, bb⟩; replace K := Lib.hid (K.out.step bb); clear y0 y1 z0 z1 z2 z3 z4; clear bb; obtain ⟨y0, y1⟩ := txt_cells K.out.now.1.1; obtain ⟨z0, z1, z2, z3, z4⟩ := ed_cells K.out.now.1.2.1))
      all_goals go_ret
      all_goals exact ⟨by rw [HR.out]; rfl, K.out.now.1.2.2⟩
  · have HR : Hid ((applyE S l a U q X m).2 = 2) := by
      show _ = _
      unfold applyE
      by_cases hg : goodE a U q X m = true
      · rw [if_pos hg]
        have hw : ¬ withinT S l a (a + (U.length : Int)) = true := fun h => hS (withinT_of h).1
        unfold cutOf; rw [if_neg hw]; rfl
      · rw [if_neg hg]
    rw [Bool.not_eq_true] at hS
    go_enter Tryd.func40, Tryd.ntmps40
    go_wp2_with (first
      | (go_at_call 20; refine (refTGood_any A c _ S l _ (Nat.le_refl _) K.out.now.2.1).mono ?_; rw [hS]; rintro e w1 ⟨rfl, bb⟩; replace K := Lib.hid (K.out.step bb); clear y0 y1 z0 z1 z2 z3 z4; clear bb; obtain ⟨y0, y1⟩ := txt_cells K.out.now.1.1; obtain ⟨z0, z1, z2, z3, z4⟩ := ed_cells K.out.now.1.2.1))
    all_goals go_ret
    all_goals exact ⟨by rw [HR.out]; rfl, K.out.now.1.2.2⟩

theorem applyE_ok {S U X : List UInt8} {l q m : List RunP} {a : Int} (h : (applyE S l a U q X m).2 = 0) : goodE a U q X m = true ∧ applyE S l a U q X m = spliceT S l a (a + (U.length : Int)) X m := by
  revert h; unfold applyE
  split
  · next hg =>
    split
    · split
      · exact fun _ => ⟨hg, rfl⟩
      · exact fun h => absurd h (by decide)
    · next hn => exact fun h => absurd h hn
  · exact fun h => absurd h (by decide)
theorem applyE_bad {S U X : List UInt8} {l q m : List RunP} {a : Int} (h : (applyE S l a U q X m).2 ≠ 0) : applyE S l a U q X m = (([], []), (applyE S l a U q X m).2) := by
  revert h; unfold applyE
  split
  · split
    · split
      · unfold spliceT
        split
        · split
          · exact fun h => absurd rfl h
          · exact fun _ => rfl
        · exact fun _ => rfl
      · exact fun _ => rfl
    · exact fun _ => rfl
  · exact fun _ => rfl

set_option maxHeartbeats 2000000 in
theorem refEApply_any (A A2 A3 : Option Addr) (c d d3 : Nat) (S : List UInt8) (l : List RunP) (a : Int) (U : List UInt8) (q : List RunP) (X : List UInt8) (m : List RunP) (w : World) (h : Txu w A S l) (hU : Txu w A2 U q) (hX : Txu w A3 X m) :
    Calls Tryd.prog 15 #[.agg #[.string ⟨S.toArray⟩, .slice A l.length c], .agg #[.int .i64 a, .string ⟨U.toArray⟩, .slice A2 q.length d, .string ⟨X.toArray⟩, .slice A3 m.length d3]] w (GivesT w (applyE S l a U q X m)) := by
  have BX := Lib.hid (boxesE3 w 24 32 24 #[.string ⟨S.toArray⟩, .slice A l.length c] #[.int .i64 a, .string ⟨U.toArray⟩, .slice A2 q.length d, .string ⟨X.toArray⟩, .slice A3 m.length d3] #[.string ⟨#[]⟩, .slice none 0 0])
  have K := Lib.hid (BX.out.and (((grow_txu h).and ((grow_txu hU).and (grow_txu hX))).step BX.out.now.2.2.2))
  clear h hU hX BX
  obtain ⟨y0, y1⟩ := txt_cells K.out.now.1.1; obtain ⟨z0, z1, z2, z3, z4⟩ := ed_cells K.out.now.1.2.1; obtain ⟨u0, u1, u2, u3⟩ := txt_var K.out.now.1.2.2.1
  obtain ⟨n, hn⟩ : ∃ n, (applyE S l a U q X m).2 = n := ⟨_, rfl⟩
  have HN := Lib.hid hn
  by_cases h0 : n = 0
  · subst h0
    obtain ⟨hg, hq⟩ := applyE_ok hn
    obtain ⟨gU, gX, ha0, ha1⟩ := (goodE_iff a U X q m).1 hg
    have hu : U.length ≤ 4096 := (goodT_size gU).1
    obtain ⟨p2, hp2⟩ : ∃ p, spliceT S l a (a + (U.length : Int)) X m = p := ⟨_, rfl⟩
    have HR : Hid (applyE S l a U q X m = p2) := by show _ = _; rw [hq]; exact hp2
    have HP2 := Lib.hid hp2
    clear hp2 hq hn gU gX hg
    obtain ⟨⟨V2, r2⟩, n2⟩ := p2
    go_enter Tryd.func15, Tryd.ntmps15
    go_wp2_with (first
      | (go_at_call 40; refine (refECheck_any A A2 A3 c d d3 S l a U q X m _ K.out.now.2.1 K.out.now.2.2.1 K.out.now.2.2.2).mono ?_; rw [HN.out]; rintro e w1 ⟨rfl, bb⟩; replace K := Lib.hid (K.out.step bb); clear y0 y1 z0 z1 z2 z3 z4 u0 u1 u2 u3; clear bb; obtain ⟨y0, y1⟩ := txt_cells K.out.now.1.1; obtain ⟨z0, z1, z2, z3, z4⟩ := ed_cells K.out.now.1.2.1; obtain ⟨u0, u1, u2, u3⟩ := txt_var K.out.now.1.2.2.1)
      | (go_at_call 41; have Z := K.out.now.1.2.2.1.lt; refine (refTSplice_any A A3 c d3 _ _ S X l m a (a + (U.length : Int)) _ (Nat.le_refl _) (Nat.le_refl _) K.out.now.2.1 K.out.now.2.2.2).mono ?_; rw [HP2.out]; rintro e w2 ⟨A5, c5, rfl, own, bb⟩; dsimp only at own ⊢; have HO := Lib.hid own; replace K := Lib.hid (K.out.step bb); clear y0 y1 z0 z1 z2 z3 z4 u0 u1 u2 u3; clear own bb; obtain ⟨y0, y1⟩ := txt_cells K.out.now.1.1; obtain ⟨z0, z1, z2, z3, z4⟩ := ed_cells K.out.now.1.2.1; obtain ⟨u0, u1, u2, u3⟩ := txt_var K.out.now.1.2.2.1))
    have E := givesT_end V2 rfl n2 K.out.now.1.2.2.2 K.out.now.1.2.2.1 (by omega) Z HO.out
    refine ret_text rfl _ _ (w.heap.size + 1 + 1) _ _ rfl E.1 rfl ?_
    rw [HR.out]
    exact E.2
  · have HR : Hid (applyE S l a U q X m = (([], []), n)) := by
      show _ = _
      have := applyE_bad (S := S) (U := U) (X := X) (l := l) (q := q) (m := m) (a := a) (by omega)
      rw [hn] at this; exact this
    have hn' : ((n : Int) == 0) = false := by simp; omega
    clear hn h0
    go_enter Tryd.func15, Tryd.ntmps15
    go_wp2_with (go_at_call 40; refine (refECheck_any A A2 A3 c d d3 S l a U q X m _ K.out.now.2.1 K.out.now.2.2.1 K.out.now.2.2.2).mono ?_; rw [HN.out]; rintro e w1 ⟨rfl, bb⟩; replace K := Lib.hid (K.out.step bb); clear y0 y1 z0 z1 z2 z3 z4 u0 u1 u2 u3; clear bb; obtain ⟨y0, y1⟩ := txt_cells K.out.now.1.1; obtain ⟨z0, z1, z2, z3, z4⟩ := ed_cells K.out.now.1.2.1; obtain ⟨u0, u1, u2, u3⟩ := txt_var K.out.now.1.2.2.1)
    have E := givesT_end (l := []) [] rfl n K.out.now.1.2.2.2 K.out.now.1.2.2.1 (by omega) (Nat.lt_succ_self _) (World.ownsRow_nil _ _ _ _)
    refine ret_text rfl _ _ (w.heap.size + 1 + 1) _ _ rfl E.1 rfl ?_
    rw [HR.out]
    exact E.2
end Go.Proofs.YtgmeamefbfgbgaaDoor

/-
  The document's Apply: layer 8.
-/
import Derived.Test.YtfeaffabminpfaaEdiApply
import Derived.Test.YtfeaffabminpfaaEdiGood
import Derived.Test.YtfeaffabminpfaaEdiRefs
namespace Go.Proofs.Ytfeaffabminpfaa
open Go.RowKit

theorem applyE_badS {S : List UInt8} {l : List RunP} {a : Int} {U : List UInt8} {q : List RunP} {X : List UInt8} {m : List RunP} (h : withinT S l a (a + (U.length : Int)) = false) : applyE S l a U q X m = (([], []), 2) := by
  have hc : cutOf S l a (a + (U.length : Int)) = (([], []), 2) := by unfold cutOf; rw [if_neg (by rw [h]; decide)]
  unfold applyE
  rw [hc]
  split <;> rfl
set_option maxHeartbeats 4000000 in
theorem refECheck_any (A A2 A3 : Option Addr) (c d d3 : Nat) (S : List UInt8) (l : List RunP) (a : Int) (U : List UInt8) (q : List RunP) (X : List UInt8) (m : List RunP) (w : World) (h : Txu w A S l) (hU : Txu w A2 U q) (hX : Txu w A3 X m) :
    Calls Try.prog 46 #[.agg #[.string ⟨S.toArray⟩, .slice A l.length c], .agg #[.int .i64 a, .string ⟨U.toArray⟩, .slice A2 q.length d, .string ⟨X.toArray⟩, .slice A3 m.length d3]] w fun e w' => e = .returned (.int .i64 ((applyE S l a U q X m).2 : Nat)) ∧ Below w.heap.size w w' := by
  have FL := Lib.hid (And.intro h.hf hX.hf)
  have BX := Lib.hid (boxesE2 w 32 34 #[.string ⟨S.toArray⟩, .slice A l.length c] #[.int .i64 a, .string ⟨U.toArray⟩, .slice A2 q.length d, .string ⟨X.toArray⟩, .slice A3 m.length d3])
  have K := Lib.hid (BX.out.and (((grow_txu h).and ((grow_txu hU).and (grow_txu hX))).step BX.out.now.2.2))
  clear h hU hX BX
  obtain ⟨y0, y1⟩ := txt_cells K.out.now.1.1
  obtain ⟨z0, z1, z2, z3, z4⟩ := ed_cells K.out.now.1.2.1
  by_cases gS : goodT S l = true
  · by_cases gE : goodE a U q X m = true
    · obtain ⟨gU, gX, ha0, ha1⟩ := (goodE_iff a U X q m).1 gE
      have hs1 := (goodT_size gS).1
      have hu1 := (goodT_size gU).1
      have hx1 := (goodT_size gX).1
      have w1' : IntKind.i64.wrap ((S.length : Int) - a) = (S.length : Int) - a := IntWalk.i64_in _ (by omega)
      have w2' : IntKind.i64.wrap (a + (U.length : Int)) = a + (U.length : Int) := IntWalk.i64_in _ (by omega)
      have w3' : IntKind.i64.wrap ((S.length : Int) - (U.length : Int)) = (S.length : Int) - (U.length : Int) := IntWalk.i64_in _ (by omega)
      have w4' : IntKind.i64.wrap ((S.length : Int) - (U.length : Int) + (X.length : Int)) = (S.length : Int) - (U.length : Int) + (X.length : Int) := IntWalk.i64_in _ (by omega)
      by_cases hb : (S.length : Int) - a < (U.length : Int)
      · have HR : Hid (applyE S l a U q X m = (([], []), 2)) := applyE_badS (Bool.eq_false_iff.2 fun hw => by have := (withinT_iff _ _ _ _).1 hw; omega)
        clear gU gX
        go_enter Try.func46, Try.ntmps46
        go_wp2_with (first
          | (go_at_call 26; refine (refTGood_any A c _ S l _ (Nat.le_refl _) K.out.now.2.1).mono ?_; rw [gS]; rintro e w1 ⟨rfl, bb⟩; replace K := Lib.hid (K.out.step bb); clear bb y0 y1 z0 z1 z2 z3 z4; obtain ⟨y0, y1⟩ := txt_cells K.out.now.1.1; obtain ⟨z0, z1, z2, z3, z4⟩ := ed_cells K.out.now.1.2.1)
          | (go_at_call 39; refine (refEGood_any A2 A3 d d3 a U X q m _ K.out.now.2.2.1 K.out.now.2.2.2).mono ?_; rw [gE]; rintro e w2 ⟨rfl, bb⟩; replace K := Lib.hid (K.out.step bb); clear bb y0 y1 z0 z1 z2 z3 z4; obtain ⟨y0, y1⟩ := txt_cells K.out.now.1.1; obtain ⟨z0, z1, z2, z3, z4⟩ := ed_cells K.out.now.1.2.1))
        go_ret
        exact ⟨by rw [HR.out]; rfl, K.out.now.1.2.2⟩
      · have hw : withinT S l a (a + (U.length : Int)) = true := (withinT_iff _ _ _ _).2 ⟨gS, ha0, by omega, by omega⟩
        obtain ⟨p, hp⟩ : ∃ p, cutOf S l a (a + (U.length : Int)) = p := ⟨_, rfl⟩
        have HOK : Hid (OkT p) := by show OkT _; rw [← hp]; exact okT_cut FL.out.1 _ _
        have HP := Lib.hid hp
        obtain ⟨⟨V, r⟩, n⟩ := p
        obtain rfl : n = 0 := by unfold cutOf at hp; rw [if_pos hw] at hp; injection hp with _ h; exact h.symm
        clear hp gU
        by_cases hs : V = U ∧ r = q
        · have H3 := Lib.hid (decide_eq_true hs)
          by_cases hbig : 4096 < (S.length : Int) - (U.length : Int) + (X.length : Int)
          · have HR : Hid ((applyE S l a U q X m).2 = 3) := by show _ = _; unfold applyE; rw [if_pos gE, HP.out]; dsimp only; rw [if_pos rfl, if_pos ⟨hs.1.symm, hs.2.symm⟩, spliceT_big hw gX (by omega)]
            clear hs hw gX
            go_enter Try.func46, Try.ntmps46
            go_wp2_with (first
              | (go_at_call 26; refine (refTGood_any A c _ S l _ (Nat.le_refl _) K.out.now.2.1).mono ?_; rw [gS]; rintro e w1 ⟨rfl, bb⟩; replace K := Lib.hid (K.out.step bb); clear bb y0 y1 z0 z1 z2 z3 z4; obtain ⟨y0, y1⟩ := txt_cells K.out.now.1.1; obtain ⟨z0, z1, z2, z3, z4⟩ := ed_cells K.out.now.1.2.1)
              | (go_at_call 39; refine (refEGood_any A2 A3 d d3 a U X q m _ K.out.now.2.2.1 K.out.now.2.2.2).mono ?_; rw [gE]; rintro e w2 ⟨rfl, bb⟩; replace K := Lib.hid (K.out.step bb); clear bb y0 y1 z0 z1 z2 z3 z4; obtain ⟨y0, y1⟩ := txt_cells K.out.now.1.1; obtain ⟨z0, z1, z2, z3, z4⟩ := ed_cells K.out.now.1.2.1)
              | (go_at_call 58; refine (refTCut_any A c _ S l a (a + (U.length : Int)) _ (Nat.le_refl _) K.out.now.2.1).mono ?_; rw [HP.out]; rintro e w3 ⟨A4, c4, rfl, own, bb⟩; dsimp only at own ⊢; replace K := Lib.hid ((K.out.step bb).var (c := c4) (HOK.out.txt (Row.of_own own))); clear own bb y0 y1 z0 z1 z2 z3 z4; obtain ⟨y0, y1⟩ := txt_cells K.out.now.2.1.1; obtain ⟨z0, z1, z2, z3, z4⟩ := ed_cells K.out.now.2.1.2.1; obtain ⟨v0, v1⟩ := txt_cells K.out.now.1.1)
              | (go_at_call 28; refine (refTSame_any A4 A2 c4 d _ _ V U r q _ (Nat.le_refl _) (Nat.le_refl _) K.out.now.1.2 K.out.now.2.2.2.1).mono ?_; rw [H3.out]; rintro e w4 ⟨rfl, bb⟩; replace K := Lib.hid (K.out.step bb); clear bb v0 v1 y0 y1 z0 z1 z2 z3 z4; obtain ⟨y0, y1⟩ := txt_cells K.out.now.2.1.1; obtain ⟨z0, z1, z2, z3, z4⟩ := ed_cells K.out.now.2.1.2.1))
            go_ret
            exact ⟨by rw [HR.out]; rfl, K.out.now.2.1.2.2⟩
          · have HR : Hid ((applyE S l a U q X m).2 = 0) := by show _ = _; unfold applyE; rw [if_pos gE, HP.out]; dsimp only; rw [if_pos rfl, if_pos ⟨hs.1.symm, hs.2.symm⟩, spliceT_ok hw gX (by omega)]
            clear hs hw gX
            go_enter Try.func46, Try.ntmps46
            go_wp2_with (first
              | (go_at_call 26; refine (refTGood_any A c _ S l _ (Nat.le_refl _) K.out.now.2.1).mono ?_; rw [gS]; rintro e w1 ⟨rfl, bb⟩; replace K := Lib.hid (K.out.step bb); clear bb y0 y1 z0 z1 z2 z3 z4; obtain ⟨y0, y1⟩ := txt_cells K.out.now.1.1; obtain ⟨z0, z1, z2, z3, z4⟩ := ed_cells K.out.now.1.2.1)
              | (go_at_call 39; refine (refEGood_any A2 A3 d d3 a U X q m _ K.out.now.2.2.1 K.out.now.2.2.2).mono ?_; rw [gE]; rintro e w2 ⟨rfl, bb⟩; replace K := Lib.hid (K.out.step bb); clear bb y0 y1 z0 z1 z2 z3 z4; obtain ⟨y0, y1⟩ := txt_cells K.out.now.1.1; obtain ⟨z0, z1, z2, z3, z4⟩ := ed_cells K.out.now.1.2.1)
              | (go_at_call 58; refine (refTCut_any A c _ S l a (a + (U.length : Int)) _ (Nat.le_refl _) K.out.now.2.1).mono ?_; rw [HP.out]; rintro e w3 ⟨A4, c4, rfl, own, bb⟩; dsimp only at own ⊢; replace K := Lib.hid ((K.out.step bb).var (c := c4) (HOK.out.txt (Row.of_own own))); clear own bb y0 y1 z0 z1 z2 z3 z4; obtain ⟨y0, y1⟩ := txt_cells K.out.now.2.1.1; obtain ⟨z0, z1, z2, z3, z4⟩ := ed_cells K.out.now.2.1.2.1; obtain ⟨v0, v1⟩ := txt_cells K.out.now.1.1)
              | (go_at_call 28; refine (refTSame_any A4 A2 c4 d _ _ V U r q _ (Nat.le_refl _) (Nat.le_refl _) K.out.now.1.2 K.out.now.2.2.2.1).mono ?_; rw [H3.out]; rintro e w4 ⟨rfl, bb⟩; replace K := Lib.hid (K.out.step bb); clear bb v0 v1 y0 y1 z0 z1 z2 z3 z4; obtain ⟨y0, y1⟩ := txt_cells K.out.now.2.1.1; obtain ⟨z0, z1, z2, z3, z4⟩ := ed_cells K.out.now.2.1.2.1))
            go_ret
            exact ⟨by rw [HR.out]; rfl, K.out.now.2.1.2.2⟩
        · have H3 := Lib.hid (decide_eq_false hs)
          have HR : Hid ((applyE S l a U q X m).2 = 7) := by show _ = _; unfold applyE; rw [if_pos gE, HP.out]; dsimp only; rw [if_pos rfl, if_neg (fun h => hs ⟨h.1.symm, h.2.symm⟩)]
          clear hs hw gX
          go_enter Try.func46, Try.ntmps46
          go_wp2_with (first
            | (go_at_call 26; refine (refTGood_any A c _ S l _ (Nat.le_refl _) K.out.now.2.1).mono ?_; rw [gS]; rintro e w1 ⟨rfl, bb⟩; replace K := Lib.hid (K.out.step bb); clear bb y0 y1 z0 z1 z2 z3 z4; obtain ⟨y0, y1⟩ := txt_cells K.out.now.1.1; obtain ⟨z0, z1, z2, z3, z4⟩ := ed_cells K.out.now.1.2.1)
            | (go_at_call 39; refine (refEGood_any A2 A3 d d3 a U X q m _ K.out.now.2.2.1 K.out.now.2.2.2).mono ?_; rw [gE]; rintro e w2 ⟨rfl, bb⟩; replace K := Lib.hid (K.out.step bb); clear bb y0 y1 z0 z1 z2 z3 z4; obtain ⟨y0, y1⟩ := txt_cells K.out.now.1.1; obtain ⟨z0, z1, z2, z3, z4⟩ := ed_cells K.out.now.1.2.1)
            | (go_at_call 58; refine (refTCut_any A c _ S l a (a + (U.length : Int)) _ (Nat.le_refl _) K.out.now.2.1).mono ?_; rw [HP.out]; rintro e w3 ⟨A4, c4, rfl, own, bb⟩; dsimp only at own ⊢; replace K := Lib.hid ((K.out.step bb).var (c := c4) (HOK.out.txt (Row.of_own own))); clear own bb y0 y1 z0 z1 z2 z3 z4; obtain ⟨y0, y1⟩ := txt_cells K.out.now.2.1.1; obtain ⟨z0, z1, z2, z3, z4⟩ := ed_cells K.out.now.2.1.2.1; obtain ⟨v0, v1⟩ := txt_cells K.out.now.1.1)
            | (go_at_call 28; refine (refTSame_any A4 A2 c4 d _ _ V U r q _ (Nat.le_refl _) (Nat.le_refl _) K.out.now.1.2 K.out.now.2.2.2.1).mono ?_; rw [H3.out]; rintro e w4 ⟨rfl, bb⟩; replace K := Lib.hid (K.out.step bb); clear bb v0 v1 y0 y1 z0 z1 z2 z3 z4; obtain ⟨y0, y1⟩ := txt_cells K.out.now.2.1.1; obtain ⟨z0, z1, z2, z3, z4⟩ := ed_cells K.out.now.2.1.2.1))
          go_ret
          exact ⟨by rw [HR.out]; rfl, K.out.now.2.1.2.2⟩
    · have HR : Hid (applyE S l a U q X m = (([], []), 2)) := by show _ = _; unfold applyE; rw [if_neg gE]
      rw [Bool.not_eq_true] at gE
      go_enter Try.func46, Try.ntmps46
      go_wp2_with (first
        | (go_at_call 26; refine (refTGood_any A c _ S l _ (Nat.le_refl _) K.out.now.2.1).mono ?_; rw [gS]; rintro e w1 ⟨rfl, bb⟩; replace K := Lib.hid (K.out.step bb); clear bb y0 y1 z0 z1 z2 z3 z4; obtain ⟨y0, y1⟩ := txt_cells K.out.now.1.1; obtain ⟨z0, z1, z2, z3, z4⟩ := ed_cells K.out.now.1.2.1)
        | (go_at_call 39; refine (refEGood_any A2 A3 d d3 a U X q m _ K.out.now.2.2.1 K.out.now.2.2.2).mono ?_; rw [gE]; rintro e w2 ⟨rfl, bb⟩; replace K := Lib.hid (K.out.step bb); clear bb y0 y1 z0 z1 z2 z3 z4; obtain ⟨y0, y1⟩ := txt_cells K.out.now.1.1; obtain ⟨z0, z1, z2, z3, z4⟩ := ed_cells K.out.now.1.2.1))
      go_ret
      exact ⟨by rw [HR.out]; rfl, K.out.now.1.2.2⟩
  · have HR : Hid (applyE S l a U q X m = (([], []), 2)) := applyE_badS (Bool.eq_false_iff.2 fun hw => gS ((withinT_iff _ _ _ _).1 hw).1)
    rw [Bool.not_eq_true] at gS
    go_enter Try.func46, Try.ntmps46
    go_wp2_with (go_at_call 26; refine (refTGood_any A c _ S l _ (Nat.le_refl _) K.out.now.2.1).mono ?_; rw [gS]; rintro e w1 ⟨rfl, bb⟩; replace K := Lib.hid (K.out.step bb); clear bb y0 y1 z0 z1 z2 z3 z4; obtain ⟨y0, y1⟩ := txt_cells K.out.now.1.1; obtain ⟨z0, z1, z2, z3, z4⟩ := ed_cells K.out.now.1.2.1)
    go_ret
    exact ⟨by rw [HR.out]; rfl, K.out.now.1.2.2⟩

set_option maxHeartbeats 2000000 in
theorem refEApply_any (A A2 A3 : Option Addr) (c d d3 : Nat) (S : List UInt8) (l : List RunP) (a : Int) (U : List UInt8) (q : List RunP) (X : List UInt8) (m : List RunP) (w : World) (h : Txu w A S l) (hU : Txu w A2 U q) (hX : Txu w A3 X m) :
    Calls Try.prog 27 #[.agg #[.string ⟨S.toArray⟩, .slice A l.length c], .agg #[.int .i64 a, .string ⟨U.toArray⟩, .slice A2 q.length d, .string ⟨X.toArray⟩, .slice A3 m.length d3]] w (GivesT w (applyE S l a U q X m)) := by
  have BX := Lib.hid (boxesE3 w 32 34 32 #[.string ⟨S.toArray⟩, .slice A l.length c] #[.int .i64 a, .string ⟨U.toArray⟩, .slice A2 q.length d, .string ⟨X.toArray⟩, .slice A3 m.length d3] #[.string ⟨#[]⟩, .slice none 0 0])
  have K := Lib.hid (BX.out.and (((grow_txu h).and ((grow_txu hU).and (grow_txu hX))).step BX.out.now.2.2.2))
  clear h hU hX BX
  obtain ⟨y0, y1⟩ := txt_cells K.out.now.1.1
  obtain ⟨z0, z1, z2, z3, z4⟩ := ed_cells K.out.now.1.2.1
  obtain ⟨u0, u1, u2, u3⟩ := txt_var K.out.now.1.2.2.1
  by_cases hn : (applyE S l a U q X m).2 = 0
  · have hm := applyE_made hn
    obtain ⟨gU, gX, ha0, ha1⟩ := (goodE_iff a U X q m).1 hm.1
    have hu1 := (goodT_size gU).1
    have w2' : IntKind.i64.wrap (a + (U.length : Int)) = a + (U.length : Int) := IntWalk.i64_in _ (by omega)
    have HR : Hid (applyE S l a U q X m = spliceT S l a (a + (U.length : Int)) X m) := by
      show _ = _
      unfold applyE at hn ⊢
      rw [if_pos hm.1] at hn ⊢
      by_cases h1 : (cutOf S l a (a + (U.length : Int))).2 = 0
      · rw [if_pos h1] at hn ⊢
        by_cases h2 : U = (cutOf S l a (a + (U.length : Int))).1.1 ∧ q = (cutOf S l a (a + (U.length : Int))).1.2
        · rw [if_pos h2]
        · rw [if_neg h2] at hn; simp at hn
      · rw [if_neg h1] at hn; exact absurd hn h1
    clear hm gU gX
    have HN : Hid ((((applyE S l a U q X m).2 : Nat) : Int) = 0) := by show _ = _; rw [hn]; rfl
    clear hn
    obtain ⟨p2, hp2⟩ : ∃ p, spliceT S l a (a + (U.length : Int)) X m = p := ⟨_, rfl⟩
    have HP2 := Lib.hid hp2
    clear hp2
    obtain ⟨⟨V2, r2⟩, n2⟩ := p2
    go_enter Try.func27, Try.ntmps27
    go_wp2_with (first
      | (go_at_call 46; refine (refECheck_any A A2 A3 c d d3 S l a U q X m _ K.out.now.2.1 K.out.now.2.2.1 K.out.now.2.2.2).mono ?_; rw [HN.out]; rintro e w1 ⟨rfl, bb⟩; replace K := Lib.hid (K.out.step bb); clear y0 y1 z0 z1 z2 z3 z4 u0 u1 u2 u3; clear bb; obtain ⟨y0, y1⟩ := txt_cells K.out.now.1.1; obtain ⟨z0, z1, z2, z3, z4⟩ := ed_cells K.out.now.1.2.1; obtain ⟨u0, u1, u2, u3⟩ := txt_var K.out.now.1.2.2.1)
      | (go_at_call 47; have Z := K.out.now.1.2.2.1.lt; refine (refTSplice_any A A3 c d3 _ _ S X l m a (a + (U.length : Int)) _ (Nat.le_refl _) (Nat.le_refl _) K.out.now.2.1 K.out.now.2.2.2).mono ?_; rw [HP2.out]; rintro e w4 ⟨A5, c5, rfl, own, bb⟩; dsimp only at own ⊢; have HO := Lib.hid own; replace K := Lib.hid (K.out.step bb); clear y0 y1 z0 z1 z2 z3 z4 u0 u1 u2 u3; clear own bb; obtain ⟨y0, y1⟩ := txt_cells K.out.now.1.1; obtain ⟨z0, z1, z2, z3, z4⟩ := ed_cells K.out.now.1.2.1; obtain ⟨u0, u1, u2, u3⟩ := txt_var K.out.now.1.2.2.1))
    have E := givesT_end V2 rfl n2 K.out.now.1.2.2.2 K.out.now.1.2.2.1 (by omega) Z HO.out
    refine ret_text rfl _ _ (w.heap.size + 1 + 1) _ _ rfl E.1 rfl ?_
    rw [HR.out, HP2.out]
    exact E.2
  · have hne : (((applyE S l a U q X m).2 : Nat) : Int) ≠ 0 := by omega
    obtain ⟨N, hN⟩ : ∃ N, (applyE S l a U q X m).2 = N := ⟨_, rfl⟩
    have HR : Hid (applyE S l a U q X m = (([], []), N)) := by show _ = _; rw [← hN, ← applyE_err hn]
    rw [hN] at hne
    have hne' : ((N : Int) != 0) = true := by simpa using hne
    have HN := Lib.hid hN
    clear hn hN
    go_enter Try.func27, Try.ntmps27
    go_wp2_with (go_at_call 46; refine (refECheck_any A A2 A3 c d d3 S l a U q X m _ K.out.now.2.1 K.out.now.2.2.1 K.out.now.2.2.2).mono ?_; rw [HN.out]; rintro e w1 ⟨rfl, bb⟩; replace K := Lib.hid (K.out.step bb); clear y0 y1 z0 z1 z2 z3 z4 u0 u1 u2 u3; clear bb; obtain ⟨y0, y1⟩ := txt_cells K.out.now.1.1; obtain ⟨z0, z1, z2, z3, z4⟩ := ed_cells K.out.now.1.2.1; obtain ⟨u0, u1, u2, u3⟩ := txt_var K.out.now.1.2.2.1)
    have E := givesT_end (l := []) [] rfl N K.out.now.1.2.2.2 K.out.now.1.2.2.1 (by omega) (Nat.lt_succ_self _) (World.ownsRow_nil _ _ _ _)
    refine ret_text rfl _ _ (w.heap.size + 1 + 1) _ _ rfl E.1 rfl ?_
    rw [HR.out]
    exact E.2
end Go.Proofs.Ytfeaffabminpfaa

/-
  The landed Apply and Check: layer 7.
-/
import Derived.Test.YtmpliacojljchaaEdiGood
import Derived.Test.YtmpliacojljchaaEdiCopy
import Derived.Test.YtmpliacojljchaaM04o
namespace Go.Proofs.Ytmpliacojljchaa
open Go.RowKit

section
variable {w wx : World} {F : World → Prop}
/-- one variable more: a text that was just answered -/
theorem Grow.var {A : Option Addr} {c : Nat} {V : List UInt8} {r : List RunP} (K : Grow wx F) (h : Txu wx A V r) :
    Grow (wx.alloc (.cells #[.string ⟨V.toArray⟩, .slice A r.length c] 24)) (fun w' => (Blk w' wx.heap.size 24 #[.string ⟨V.toArray⟩, .slice A r.length c] ∧ Txu w' A V r) ∧ F w') :=
  ((blk_box wx).and ((grow_txu h).alloc _)).and (K.alloc _)
theorem Grow.evar {A B : Option Addr} {c d : Nat} {a : Int} {V X : List UInt8} {r m : List RunP} (K : Grow wx F) (h : Txu wx A V r) (hh : Txu wx B X m) :
    Grow (wx.alloc (.cells #[.int .i64 a, .string ⟨V.toArray⟩, .slice A r.length c, .string ⟨X.toArray⟩, .slice B m.length d] 29)) (fun w' => (Blk w' wx.heap.size 29 #[.int .i64 a, .string ⟨V.toArray⟩, .slice A r.length c, .string ⟨X.toArray⟩, .slice B m.length d] ∧ Txu w' A V r ∧ Txu w' B X m) ∧ F w') :=
  ((blk_box wx).and (((grow_txu h).and (grow_txu hh)).alloc _)).and (K.alloc _)
theorem boxesE2 (w : World) (T0 T1 : TypeId) (c0 c1 : Array Value) : Grow ((w.alloc (.cells c0 T0)).alloc (.cells c1 T1)) (fun w' => Blk w' w.heap.size T0 c0 ∧ Blk w' (w.heap.size + 1) T1 c1 ∧ Below w.heap.size w w') := by
  have e : (w.alloc (.cells c0 T0)).heap.size = w.heap.size + 1 := by simp
  refine ((blk_box w).alloc _).and (Grow.and ?_ (grow_bel (((Below.refl _ w).alloc (Nat.le_refl _) _).alloc (by omega) _)))
  rw [← e]; exact blk_box _
theorem boxesE3 (w : World) (T0 T1 T2 : TypeId) (c0 c1 c2 : Array Value) : Grow (((w.alloc (.cells c0 T0)).alloc (.cells c1 T1)).alloc (.cells c2 T2)) (fun w' => Blk w' w.heap.size T0 c0 ∧ Blk w' (w.heap.size + 1) T1 c1 ∧ Blk w' (w.heap.size + 1 + 1) T2 c2 ∧ Below w.heap.size w w') := by
  have e : ((w.alloc (.cells c0 T0)).alloc (.cells c1 T1)).heap.size = w.heap.size + 1 + 1 := by simp
  have h2 := (boxesE2 w T0 T1 c0 c1).alloc (.cells c2 T2)
  have h3 : Grow (((w.alloc (.cells c0 T0)).alloc (.cells c1 T1)).alloc (.cells c2 T2)) (fun w' => Blk w' (w.heap.size + 1 + 1) T2 c2) := by rw [← e]; exact blk_box _
  exact fun w' hb => ⟨(h2 w' hb).1, (h2 w' hb).2.1, h3 w' hb, (h2 w' hb).2.2⟩
end

set_option maxHeartbeats 2000000 in
theorem ediApply_any (A A2 A3 : Option Addr) (c d d3 : Nat) (S : List UInt8) (l : List RunP) (a : Int) (U : List UInt8) (q : List RunP) (X : List UInt8) (m : List RunP) (w : World) (h : Txu w A S l) (hU : Txu w A2 U q) (hX : Txu w A3 X m) :
    Calls Try.prog 20 #[.agg #[.string ⟨S.toArray⟩, .slice A l.length c], .agg #[.int .i64 a, .string ⟨U.toArray⟩, .slice A2 q.length d, .string ⟨X.toArray⟩, .slice A3 m.length d3]] w (GivesT w (applyE S l a U q X m)) := by
  have FL := Lib.hid (And.intro h.hf hX.hf)
  have BX := Lib.hid (boxesE3 w 24 29 24 #[.string ⟨S.toArray⟩, .slice A l.length c] #[.int .i64 a, .string ⟨U.toArray⟩, .slice A2 q.length d, .string ⟨X.toArray⟩, .slice A3 m.length d3] #[.string ⟨#[]⟩, .slice none 0 0])
  have K := Lib.hid (BX.out.and (((grow_txu h).and ((grow_txu hU).and (grow_txu hX))).step BX.out.now.2.2.2))
  clear h hU hX BX
  obtain ⟨y0, y1⟩ := txt_cells K.out.now.1.1
  obtain ⟨z0, z1, z2, z3, z4⟩ := ed_cells K.out.now.1.2.1
  obtain ⟨u0, u1, u2, u3⟩ := txt_var K.out.now.1.2.2.1
  by_cases hg : goodE a U q X m = true
  · obtain ⟨gU, gX, ha0, ha1⟩ := (goodE_iff a U X q m).1 hg
    have hu : U.length ≤ 4096 := (goodT_size gU).1
    obtain ⟨p, hp⟩ : ∃ p, cutOf S l a (a + (U.length : Int)) = p := ⟨_, rfl⟩
    have HOK : Hid (OkT p) := by show OkT _; rw [← hp]; exact okT_cut FL.out.1 _ _
    have HP := Lib.hid hp
    clear hp gU gX
    obtain ⟨⟨V, r⟩, n⟩ := p
    by_cases hn : n = 0
    · subst hn
      by_cases hs : V = U ∧ r = q
      · obtain ⟨p2, hp2⟩ : ∃ p, spliceT S l a (a + (U.length : Int)) X m = p := ⟨_, rfl⟩
        have HP2 := Lib.hid hp2
        have HR : Hid (applyE S l a U q X m = p2) := by show _ = _; unfold applyE; rw [if_pos hg, HP.out]; dsimp only; rw [if_pos rfl, if_pos ⟨hs.1.symm, hs.2.symm⟩]; exact hp2
        have H3 := Lib.hid (decide_eq_true hs)
        clear hs hp2
        obtain ⟨⟨V2, r2⟩, n2⟩ := p2
        go_enter Try.func20, Try.ntmps20
        go_wp2_with (first
          | (go_at_call 31; refine (ediGood_any A2 A3 d d3 a U X q m _ K.out.now.2.2.1 K.out.now.2.2.2).mono ?_; rw [hg]; rintro e w1 ⟨rfl, bb⟩; replace K := Lib.hid (K.out.step bb); clear y0 y1 z0 z1 z2 z3 z4 u0 u1 u2 u3; clear bb; obtain ⟨y0, y1⟩ := txt_cells K.out.now.1.1; obtain ⟨z0, z1, z2, z3, z4⟩ := ed_cells K.out.now.1.2.1; obtain ⟨u0, u1, u2, u3⟩ := txt_var K.out.now.1.2.2.1)
          | (go_at_call 27; refine (stpCut_any A c _ S l a (a + (U.length : Int)) _ (Nat.le_refl _) K.out.now.2.1).mono ?_; rw [HP.out]; rintro e w2 ⟨A4, c4, rfl, own, bb⟩; dsimp only at own ⊢; replace K := Lib.hid ((K.out.step bb).var (c := c4) (HOK.out.txt (Row.of_own own))); clear y0 y1 z0 z1 z2 z3 z4 u0 u1 u2 u3; clear own bb; obtain ⟨y0, y1⟩ := txt_cells K.out.now.2.1.1; obtain ⟨z0, z1, z2, z3, z4⟩ := ed_cells K.out.now.2.1.2.1; obtain ⟨u0, u1, u2, u3⟩ := txt_var K.out.now.2.1.2.2.1; obtain ⟨v0, v1⟩ := txt_cells K.out.now.1.1)
          | (go_at_call 32; refine (stpSame_any A4 A2 c4 d _ _ V U r q _ (Nat.le_refl _) (Nat.le_refl _) K.out.now.1.2 K.out.now.2.2.2.1).mono ?_; rw [H3.out]; rintro e w3 ⟨rfl, bb⟩; replace K := Lib.hid (K.out.step bb); clear y0 y1 z0 z1 z2 z3 z4 u0 u1 u2 u3; clear bb v0 v1; obtain ⟨y0, y1⟩ := txt_cells K.out.now.2.1.1; obtain ⟨z0, z1, z2, z3, z4⟩ := ed_cells K.out.now.2.1.2.1; obtain ⟨u0, u1, u2, u3⟩ := txt_var K.out.now.2.1.2.2.1)
          | (go_at_call 28; have Z := K.out.now.2.1.2.2.1.lt; refine (stpSplice_any A A3 c d3 _ _ S X l m a (a + (U.length : Int)) _ (Nat.le_refl _) (Nat.le_refl _) K.out.now.2.2.1 K.out.now.2.2.2.2).mono ?_; rw [HP2.out]; rintro e w4 ⟨A5, c5, rfl, own, bb⟩; dsimp only at own ⊢; have HO := Lib.hid own; replace K := Lib.hid (K.out.step bb); clear y0 y1 z0 z1 z2 z3 z4 u0 u1 u2 u3; clear own bb; obtain ⟨y0, y1⟩ := txt_cells K.out.now.2.1.1; obtain ⟨z0, z1, z2, z3, z4⟩ := ed_cells K.out.now.2.1.2.1; obtain ⟨u0, u1, u2, u3⟩ := txt_var K.out.now.2.1.2.2.1))
        have E := givesT_end V2 rfl n2 K.out.now.2.1.2.2.2 K.out.now.2.1.2.2.1 (by omega) Z HO.out
        refine ret_text rfl _ _ (w.heap.size + 1 + 1) _ _ rfl E.1 rfl ?_
        rw [HR.out]
        exact E.2
      · have HR : Hid (applyE S l a U q X m = (([], []), 7)) := by show _ = _; unfold applyE; rw [if_pos hg, HP.out]; dsimp only; rw [if_pos rfl, if_neg (fun h => hs ⟨h.1.symm, h.2.symm⟩)]
        have H3 := Lib.hid (decide_eq_false hs)
        clear hs
        go_enter Try.func20, Try.ntmps20
        go_wp2_with (first
          | (go_at_call 31; refine (ediGood_any A2 A3 d d3 a U X q m _ K.out.now.2.2.1 K.out.now.2.2.2).mono ?_; rw [hg]; rintro e w1 ⟨rfl, bb⟩; replace K := Lib.hid (K.out.step bb); clear y0 y1 z0 z1 z2 z3 z4 u0 u1 u2 u3; clear bb; obtain ⟨y0, y1⟩ := txt_cells K.out.now.1.1; obtain ⟨z0, z1, z2, z3, z4⟩ := ed_cells K.out.now.1.2.1; obtain ⟨u0, u1, u2, u3⟩ := txt_var K.out.now.1.2.2.1)
          | (go_at_call 27; refine (stpCut_any A c _ S l a (a + (U.length : Int)) _ (Nat.le_refl _) K.out.now.2.1).mono ?_; rw [HP.out]; rintro e w2 ⟨A4, c4, rfl, own, bb⟩; dsimp only at own ⊢; replace K := Lib.hid ((K.out.step bb).var (c := c4) (HOK.out.txt (Row.of_own own))); clear y0 y1 z0 z1 z2 z3 z4 u0 u1 u2 u3; clear own bb; obtain ⟨y0, y1⟩ := txt_cells K.out.now.2.1.1; obtain ⟨z0, z1, z2, z3, z4⟩ := ed_cells K.out.now.2.1.2.1; obtain ⟨u0, u1, u2, u3⟩ := txt_var K.out.now.2.1.2.2.1; obtain ⟨v0, v1⟩ := txt_cells K.out.now.1.1)
          | (go_at_call 32; refine (stpSame_any A4 A2 c4 d _ _ V U r q _ (Nat.le_refl _) (Nat.le_refl _) K.out.now.1.2 K.out.now.2.2.2.1).mono ?_; rw [H3.out]; rintro e w3 ⟨rfl, bb⟩; replace K := Lib.hid (K.out.step bb); clear y0 y1 z0 z1 z2 z3 z4 u0 u1 u2 u3; clear bb v0 v1; obtain ⟨y0, y1⟩ := txt_cells K.out.now.2.1.1; obtain ⟨z0, z1, z2, z3, z4⟩ := ed_cells K.out.now.2.1.2.1; obtain ⟨u0, u1, u2, u3⟩ := txt_var K.out.now.2.1.2.2.1))
        have E := givesT_end (l := []) [] rfl 7 K.out.now.2.1.2.2.2 K.out.now.2.1.2.2.1 (by omega) (Nat.lt_succ_self _) (World.ownsRow_nil _ _ _ _)
        refine ret_text rfl _ _ (w.heap.size + 1 + 1) _ _ rfl E.1 rfl ?_
        rw [HR.out]
        exact E.2
    · have HR : Hid (applyE S l a U q X m = (([], []), n)) := by show _ = _; unfold applyE; rw [if_pos hg, HP.out]; dsimp only; rw [if_neg hn]
      have hn' : ((n : Int) == 0) = false := by simp; omega
      clear hn
      go_enter Try.func20, Try.ntmps20
      go_wp2_with (first
        | (go_at_call 31; refine (ediGood_any A2 A3 d d3 a U X q m _ K.out.now.2.2.1 K.out.now.2.2.2).mono ?_; rw [hg]; rintro e w1 ⟨rfl, bb⟩; replace K := Lib.hid (K.out.step bb); clear y0 y1 z0 z1 z2 z3 z4 u0 u1 u2 u3; clear bb; obtain ⟨y0, y1⟩ := txt_cells K.out.now.1.1; obtain ⟨z0, z1, z2, z3, z4⟩ := ed_cells K.out.now.1.2.1; obtain ⟨u0, u1, u2, u3⟩ := txt_var K.out.now.1.2.2.1)
        | (go_at_call 27; refine (stpCut_any A c _ S l a (a + (U.length : Int)) _ (Nat.le_refl _) K.out.now.2.1).mono ?_; rw [HP.out]; rintro e w2 ⟨A4, c4, rfl, own, bb⟩; dsimp only at own ⊢; replace K := Lib.hid ((K.out.step bb).var (c := c4) (HOK.out.txt (Row.of_own own))); clear y0 y1 z0 z1 z2 z3 z4 u0 u1 u2 u3; clear own bb; obtain ⟨y0, y1⟩ := txt_cells K.out.now.2.1.1; obtain ⟨z0, z1, z2, z3, z4⟩ := ed_cells K.out.now.2.1.2.1; obtain ⟨u0, u1, u2, u3⟩ := txt_var K.out.now.2.1.2.2.1; obtain ⟨v0, v1⟩ := txt_cells K.out.now.1.1))
      have E := givesT_end (l := []) [] rfl n K.out.now.2.1.2.2.2 K.out.now.2.1.2.2.1 (by omega) (Nat.lt_succ_self _) (World.ownsRow_nil _ _ _ _)
      refine ret_text rfl _ _ (w.heap.size + 1 + 1) _ _ rfl E.1 rfl ?_
      rw [HR.out]
      exact E.2
  · have HR : Hid (applyE S l a U q X m = (([], []), 2)) := by show _ = _; unfold applyE; rw [if_neg hg]
    rw [Bool.not_eq_true] at hg
    go_enter Try.func20, Try.ntmps20
    go_wp2_with (first
      | (go_at_call 31; refine (ediGood_any A2 A3 d d3 a U X q m _ K.out.now.2.2.1 K.out.now.2.2.2).mono ?_; rw [hg]; rintro e w1 ⟨rfl, bb⟩; replace K := Lib.hid (K.out.step bb); clear y0 y1 z0 z1 z2 z3 z4 u0 u1 u2 u3; clear bb; obtain ⟨y0, y1⟩ := txt_cells K.out.now.1.1; obtain ⟨z0, z1, z2, z3, z4⟩ := ed_cells K.out.now.1.2.1; obtain ⟨u0, u1, u2, u3⟩ := txt_var K.out.now.1.2.2.1))
    have E := givesT_end (l := []) [] rfl 2 K.out.now.1.2.2.2 K.out.now.1.2.2.1 (by omega) (Nat.lt_succ_self _) (World.ownsRow_nil _ _ _ _)
    refine ret_text rfl _ _ (w.heap.size + 1 + 1) _ _ rfl E.1 rfl ?_
    rw [HR.out]
    exact E.2

set_option maxHeartbeats 1000000 in
theorem ediCheck_any (A A2 A3 : Option Addr) (c d d3 : Nat) (S : List UInt8) (l : List RunP) (a : Int) (U : List UInt8) (q : List RunP) (X : List UInt8) (m : List RunP) (w : World) (h : Txu w A S l) (hU : Txu w A2 U q) (hX : Txu w A3 X m) :
    Calls Try.prog 25 #[.agg #[.string ⟨S.toArray⟩, .slice A l.length c], .agg #[.int .i64 a, .string ⟨U.toArray⟩, .slice A2 q.length d, .string ⟨X.toArray⟩, .slice A3 m.length d3]] w fun e w' => e = .returned (.int .i64 ((applyE S l a U q X m).2 : Nat)) ∧ Below w.heap.size w w' := by
  have BX := Lib.hid (boxesE2 w 24 29 #[.string ⟨S.toArray⟩, .slice A l.length c] #[.int .i64 a, .string ⟨U.toArray⟩, .slice A2 q.length d, .string ⟨X.toArray⟩, .slice A3 m.length d3])
  have K := Lib.hid (BX.out.and (((grow_txu h).and ((grow_txu hU).and (grow_txu hX))).step BX.out.now.2.2))
  clear h hU hX BX
  obtain ⟨y0, y1⟩ := txt_cells K.out.now.1.1
  obtain ⟨z0, z1, z2, z3, z4⟩ := ed_cells K.out.now.1.2.1
  obtain ⟨p, hp⟩ : ∃ p, applyE S l a U q X m = p := ⟨_, rfl⟩
  have HP := Lib.hid hp
  clear hp
  obtain ⟨⟨V, r⟩, n⟩ := p
  go_enter Try.func25, Try.ntmps25
  go_wp2_with (go_at_call 20; refine (ediApply_any A A2 A3 c d d3 S l a U q X m _ K.out.now.2.1 K.out.now.2.2.1 K.out.now.2.2.2).mono ?_; rw [HP.out]; rintro e w1 ⟨A4, c4, rfl, own, bb⟩; dsimp only at own ⊢; replace K := Lib.hid (K.out.step bb); clear bb own y0 y1 z0 z1 z2 z3 z4)
  go_ret
  exact ⟨by rw [HP.out]; rfl, K.out.now.1.2.2.alloc K.out.now.1.2.2.size _⟩
end Go.Proofs.Ytmpliacojljchaa

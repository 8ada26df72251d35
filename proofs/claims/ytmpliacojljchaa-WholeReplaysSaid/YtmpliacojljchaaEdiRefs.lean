/-
  Contracts of the document's own answers, layer 7: Of, Invert, Same.
-/
import Derived.Test.YtmpliacojljchaaEdiOf
import Derived.Test.YtmpliacojljchaaM04
namespace Go.Proofs.Ytmpliacojljchaa
open Go.RowKit

theorem grow_txt {wx : World} {A : Option Addr} {S : List UInt8} {l : List RunP} (h : Txu wx A S l) : Grow wx (fun w' => Txt w' wx.heap.size A S l) := fun _ hb => Txt.below h hb

set_option maxHeartbeats 2000000 in
theorem refEOf_any (A A2 : Option Addr) (c d : Nat) (S : List UInt8) (l : List RunP) (f t : Int) (X : List UInt8) (m : List RunP) (w : World) (h : Txu w A S l) (hX : Txu w A2 X m) :
    Calls Try.prog 12 #[.agg #[.string ⟨S.toArray⟩, .slice A l.length c], .int .i64 f, .int .i64 t, .agg #[.string ⟨X.toArray⟩, .slice A2 m.length d]] w (GivesE w (ofE S l f t X m)) := by
  have FL := Lib.hid (And.intro h.hf hX.hf)
  have HT := Lib.hid (grow_txt hX)
  have BX := Lib.hid (boxesE3 w 24 24 29 #[.string ⟨S.toArray⟩, .slice A l.length c] #[.string ⟨X.toArray⟩, .slice A2 m.length d] #[.int .i64 0, .string ⟨#[]⟩, .slice none 0 0, .string ⟨#[]⟩, .slice none 0 0])
  have K := Lib.hid (BX.out.and (((grow_txu h).and (grow_txu hX)).step BX.out.now.2.2.2))
  clear h hX BX
  obtain ⟨y0, y1⟩ := txt_cells K.out.now.1.1; obtain ⟨z0, z1⟩ := txt_cells K.out.now.1.2.1; obtain ⟨⟨u0, u1, u2, u3, u4⟩, u5, u6, u7, u8, u9⟩ := ed_var K.out.now.1.2.2.1
  obtain ⟨p, hp⟩ : ∃ p, cutOf S l f t = p := ⟨_, rfl⟩
  have HOK : Hid (OkT p) := by show OkT _; rw [← hp]; exact okT_cut FL.out.1 _ _
  have HP := Lib.hid hp
  clear hp
  obtain ⟨⟨V, r⟩, n⟩ := p
  by_cases hn : n = 0
  · subst hn
    have hw : withinT S l f t = true := cutOf_zero (by rw [HP.out])
    obtain ⟨gS, f0, f1, f2⟩ := withinT_of hw
    have s1 : S.length ≤ 4096 := (goodT_size gS).1
    by_cases hg : goodT X m = true
    · have x1 : X.length ≤ 4096 := (goodT_size hg).1
      by_cases hb : (S.length : Int) - (t - f) + (X.length : Int) ≤ 4096
      · have HR : Hid (ofE S l f t X m = (⟨f, V, r, X, m⟩, 0)) := by show _ = _; unfold ofE; rw [HP.out, spliceT_ok hw hg hb]; rfl
        clear hw gS
        go_enter Try.func12, Try.ntmps12
        go_wp2_with (first
          | (go_at_call 30; refine (refTCut_any A c _ S l f t _ (Nat.le_refl _) K.out.now.2.1).mono ?_; rw [HP.out]; rintro e w2 ⟨A4, c4, rfl, own, bb⟩; dsimp only at own ⊢; have Z := K.out.now.1.2.2.1.lt; replace K := Lib.hid (((K.out.step bb).own Z own).var (c := c4) (HOK.out.txt (Row.of_own own))); clear y0 y1 z0 z1 u0 u1 u2 u3 u4 u5 u6 u7 u8 u9; clear own bb; obtain ⟨y0, y1⟩ := txt_cells K.out.now.2.2.1.1; obtain ⟨z0, z1⟩ := txt_cells K.out.now.2.2.1.2.1; obtain ⟨⟨u0, u1, u2, u3, u4⟩, u5, u6, u7, u8, u9⟩ := ed_var K.out.now.2.2.1.2.2.1; obtain ⟨v0, v1⟩ := txt_cells K.out.now.1.1)
          | (go_at_call 26; refine (refTGood_any A2 d _ X m _ (Nat.le_refl _) K.out.now.2.2.2.2).mono ?_; rw [hg]; rintro e w3 ⟨rfl, bb⟩; replace K := Lib.hid (K.out.step bb); clear y0 y1 z0 z1 u0 u1 u2 u3 u4 u5 u6 u7 u8 u9; clear bb v0 v1; obtain ⟨y0, y1⟩ := txt_cells K.out.now.2.2.1.1; obtain ⟨z0, z1⟩ := txt_cells K.out.now.2.2.1.2.1; obtain ⟨⟨u0, u1, u2, u3, u4⟩, u5, u6, u7, u8, u9⟩ := ed_var K.out.now.2.2.1.2.2.1; obtain ⟨v0, v1⟩ := txt_cells K.out.now.1.1))
        have E := edit_end f K.out.now.2.2.1.2.2.2 K.out.now.2.2.1.2.2.1 (by omega) (A := A4) (A2 := A2) (l := r) (m := m) (s := ⟨V.toArray⟩) (x := ⟨X.toArray⟩) (K.out.now.2.1.toN (Nat.lt_succ_self _)) (rowN_row (HT.out _ K.out.now.2.2.1.2.2.2).row K.out.now.2.2.1.2.2.2.size (by omega)) (.slice A4 r.length c4) (.slice A2 m.length d)
        refine ret_edit rfl _ _ (w.heap.size + 1 + 1) _ _ _ _ _ rfl E.1 rfl ?_
        rw [HR.out]
        exact ⟨A4, c4, A2, d, rfl, E.2.1, E.2.2.1, E.2.2.2⟩
      · have HR : Hid (ofE S l f t X m = (⟨0, [], [], [], []⟩, 3)) := by show _ = _; unfold ofE; rw [HP.out, spliceT_big hw hg hb]; rfl
        clear hw gS
        go_enter Try.func12, Try.ntmps12
        go_wp2_with (first
          | (go_at_call 30; refine (refTCut_any A c _ S l f t _ (Nat.le_refl _) K.out.now.2.1).mono ?_; rw [HP.out]; rintro e w2 ⟨A4, c4, rfl, own, bb⟩; dsimp only at own ⊢; have Z := K.out.now.1.2.2.1.lt; replace K := Lib.hid (((K.out.step bb).own Z own).var (c := c4) (HOK.out.txt (Row.of_own own))); clear y0 y1 z0 z1 u0 u1 u2 u3 u4 u5 u6 u7 u8 u9; clear own bb; obtain ⟨y0, y1⟩ := txt_cells K.out.now.2.2.1.1; obtain ⟨z0, z1⟩ := txt_cells K.out.now.2.2.1.2.1; obtain ⟨⟨u0, u1, u2, u3, u4⟩, u5, u6, u7, u8, u9⟩ := ed_var K.out.now.2.2.1.2.2.1; obtain ⟨v0, v1⟩ := txt_cells K.out.now.1.1)
          | (go_at_call 26; refine (refTGood_any A2 d _ X m _ (Nat.le_refl _) K.out.now.2.2.2.2).mono ?_; rw [hg]; rintro e w3 ⟨rfl, bb⟩; replace K := Lib.hid (K.out.step bb); clear y0 y1 z0 z1 u0 u1 u2 u3 u4 u5 u6 u7 u8 u9; clear bb v0 v1; obtain ⟨y0, y1⟩ := txt_cells K.out.now.2.2.1.1; obtain ⟨z0, z1⟩ := txt_cells K.out.now.2.2.1.2.1; obtain ⟨⟨u0, u1, u2, u3, u4⟩, u5, u6, u7, u8, u9⟩ := ed_var K.out.now.2.2.1.2.2.1; obtain ⟨v0, v1⟩ := txt_cells K.out.now.1.1))
        have E := givesE_zero K.out.now.2.2.1.2.2.2 K.out.now.2.2.1.2.2.1 (by omega) 3
        refine ret_edit rfl _ _ (w.heap.size + 1 + 1) _ _ _ _ _ rfl E.1 rfl ?_
        rw [HR.out]
        exact E.2
    · have HR : Hid (ofE S l f t X m = (⟨0, [], [], [], []⟩, 2)) := by show _ = _; unfold ofE; rw [HP.out, spliceT_bad (fun h => hg h.2)]; rfl
      rw [Bool.not_eq_true] at hg
      clear hw gS
      go_enter Try.func12, Try.ntmps12
      go_wp2_with (first
        | (go_at_call 30; refine (refTCut_any A c _ S l f t _ (Nat.le_refl _) K.out.now.2.1).mono ?_; rw [HP.out]; rintro e w2 ⟨A4, c4, rfl, own, bb⟩; dsimp only at own ⊢; have Z := K.out.now.1.2.2.1.lt; replace K := Lib.hid (((K.out.step bb).own Z own).var (c := c4) (HOK.out.txt (Row.of_own own))); clear y0 y1 z0 z1 u0 u1 u2 u3 u4 u5 u6 u7 u8 u9; clear own bb; obtain ⟨y0, y1⟩ := txt_cells K.out.now.2.2.1.1; obtain ⟨z0, z1⟩ := txt_cells K.out.now.2.2.1.2.1; obtain ⟨⟨u0, u1, u2, u3, u4⟩, u5, u6, u7, u8, u9⟩ := ed_var K.out.now.2.2.1.2.2.1; obtain ⟨v0, v1⟩ := txt_cells K.out.now.1.1)
        | (go_at_call 26; refine (refTGood_any A2 d _ X m _ (Nat.le_refl _) K.out.now.2.2.2.2).mono ?_; rw [hg]; rintro e w3 ⟨rfl, bb⟩; replace K := Lib.hid (K.out.step bb); clear y0 y1 z0 z1 u0 u1 u2 u3 u4 u5 u6 u7 u8 u9; clear bb v0 v1; obtain ⟨y0, y1⟩ := txt_cells K.out.now.2.2.1.1; obtain ⟨z0, z1⟩ := txt_cells K.out.now.2.2.1.2.1; obtain ⟨⟨u0, u1, u2, u3, u4⟩, u5, u6, u7, u8, u9⟩ := ed_var K.out.now.2.2.1.2.2.1; obtain ⟨v0, v1⟩ := txt_cells K.out.now.1.1))
      have E := givesE_zero K.out.now.2.2.1.2.2.2 K.out.now.2.2.1.2.2.1 (by omega) 2
      refine ret_edit rfl _ _ (w.heap.size + 1 + 1) _ _ _ _ _ rfl E.1 rfl ?_
      rw [HR.out]
      exact E.2
  · obtain rfl : n = 2 := by have := cutOf_two (S := S) (l := l) (f := f) (t := t) (by rw [HP.out]; exact hn); rw [HP.out] at this; injection this
    have HR : Hid (ofE S l f t X m = (⟨0, [], [], [], []⟩, 2)) := by show _ = _; unfold ofE; rw [HP.out]; rfl
    go_enter Try.func12, Try.ntmps12
    go_wp2_with (first
      | (go_at_call 30; refine (refTCut_any A c _ S l f t _ (Nat.le_refl _) K.out.now.2.1).mono ?_; rw [HP.out]; rintro e w2 ⟨A4, c4, rfl, own, bb⟩; dsimp only at own ⊢; have Z := K.out.now.1.2.2.1.lt; replace K := Lib.hid (((K.out.step bb).own Z own).var (c := c4) (HOK.out.txt (Row.of_own own))); clear y0 y1 z0 z1 u0 u1 u2 u3 u4 u5 u6 u7 u8 u9; clear own bb; obtain ⟨y0, y1⟩ := txt_cells K.out.now.2.2.1.1; obtain ⟨z0, z1⟩ := txt_cells K.out.now.2.2.1.2.1; obtain ⟨⟨u0, u1, u2, u3, u4⟩, u5, u6, u7, u8, u9⟩ := ed_var K.out.now.2.2.1.2.2.1; obtain ⟨v0, v1⟩ := txt_cells K.out.now.1.1))
    have E := givesE_zero K.out.now.2.2.1.2.2.2 K.out.now.2.2.1.2.2.1 (by omega) 2
    refine ret_edit rfl _ _ (w.heap.size + 1 + 1) _ _ _ _ _ rfl E.1 rfl ?_
    rw [HR.out]
    exact E.2

set_option maxHeartbeats 1000000 in
theorem refEInvert_any (A A2 : Option Addr) (c d : Nat) (a : Int) (S : List UInt8) (l : List RunP) (X : List UInt8) (m : List RunP) (w : World) (h : Txu w A S l) (hX : Txu w A2 X m) :
    Calls Try.prog 15 #[.agg #[.int .i64 a, .string ⟨S.toArray⟩, .slice A l.length c, .string ⟨X.toArray⟩, .slice A2 m.length d]] w (GivesE1 w a X m S l) := by
  have BX := Lib.hid (boxesE2 w 29 29 #[.int .i64 a, .string ⟨S.toArray⟩, .slice A l.length c, .string ⟨X.toArray⟩, .slice A2 m.length d] #[.int .i64 0, .string ⟨#[]⟩, .slice none 0 0, .string ⟨#[]⟩, .slice none 0 0])
  obtain ⟨y0, y1, y2, y3, y4⟩ := ed_cells BX.out.now.1
  obtain ⟨⟨u0, u1, u2, u3, u4⟩, u5, u6, u7, u8, u9⟩ := ed_var BX.out.now.2.1
  have E := Lib.hid (boxesE2 w 29 29 #[.int .i64 a, .string ⟨S.toArray⟩, .slice A l.length c, .string ⟨X.toArray⟩, .slice A2 m.length d] #[.int .i64 a, .string ⟨X.toArray⟩, .slice A2 m.length d, .string ⟨S.toArray⟩, .slice A l.length c])
  have T := Lib.hid (((grow_txu h).and (grow_txu hX)).step E.out.now.2.2)
  clear h hX
  go_enter Try.func15, Try.ntmps15
  go_wp2_with fail
  clear y0 y1 y2 y3 y4 u0 u1 u2 u3 u4 u5 u6 u7 u8 u9 BX
  generalize (w.alloc (.cells #[.int .i64 a, .string ⟨S.toArray⟩, .slice A l.length c, .string ⟨X.toArray⟩, .slice A2 m.length d] 29)).alloc (.cells #[.int .i64 a, .string ⟨X.toArray⟩, .slice A2 m.length d, .string ⟨S.toArray⟩, .slice A l.length c] 29) = wz at *
  refine ret_edit1 rfl _ _ (w.heap.size + 1) _ _ _ _ _ rfl E.out.now.2.1 rfl ?_
  exact ⟨A2, d, A, c, rfl, T.out.now.2.row, T.out.now.1.row, E.out.now.2.2⟩

set_option maxHeartbeats 1000000 in
/-- an edit is the same as itself, wherever its runs lie -/
theorem refESame_any (A A2 B B2 : Option Addr) (c d c2 d2 : Nat) (a : Int) (S : List UInt8) (l : List RunP) (X : List UInt8) (m : List RunP) (w : World) (h : Txu w A S l) (hX : Txu w A2 X m) (h2 : Txu w B S l) (hX2 : Txu w B2 X m) :
    Calls Try.prog 13 #[.agg #[.int .i64 a, .string ⟨S.toArray⟩, .slice A l.length c, .string ⟨X.toArray⟩, .slice A2 m.length d], .agg #[.int .i64 a, .string ⟨S.toArray⟩, .slice B l.length c2, .string ⟨X.toArray⟩, .slice B2 m.length d2]] w fun e w' => e = .returned (.bool true) ∧ Below w.heap.size w w' := by
  have BX := Lib.hid (boxesE2 w 29 29 #[.int .i64 a, .string ⟨S.toArray⟩, .slice A l.length c, .string ⟨X.toArray⟩, .slice A2 m.length d] #[.int .i64 a, .string ⟨S.toArray⟩, .slice B l.length c2, .string ⟨X.toArray⟩, .slice B2 m.length d2])
  have K := Lib.hid (BX.out.and (((grow_txu h).and ((grow_txu hX).and ((grow_txu h2).and (grow_txu hX2)))).step BX.out.now.2.2))
  clear h hX h2 hX2 BX
  obtain ⟨y0, y1, y2, y3, y4⟩ := ed_cells K.out.now.1.1
  obtain ⟨u0, u1, u2, u3, u4⟩ := ed_cells K.out.now.1.2.1
  go_enter Try.func13, Try.ntmps13
  go_wp2_with (first
    | (go_at_call_of 21 S; refine (refTSame_any A B c c2 _ _ S S l l _ (Nat.le_refl _) (Nat.le_refl _) K.out.now.2.1 K.out.now.2.2.2.1).mono ?_; rw [decide_eq_true ⟨rfl, rfl⟩]; rintro e w1 ⟨rfl, bb⟩; replace K := Lib.hid (K.out.step bb); clear bb y0 y1 y2 y3 y4 u0 u1 u2 u3 u4; obtain ⟨y0, y1, y2, y3, y4⟩ := ed_cells K.out.now.1.1; obtain ⟨u0, u1, u2, u3, u4⟩ := ed_cells K.out.now.1.2.1)
    | (go_at_call_of 21 X; refine (refTSame_any A2 B2 d d2 _ _ X X m m _ (Nat.le_refl _) (Nat.le_refl _) K.out.now.2.2.1 K.out.now.2.2.2.2).mono ?_; rw [decide_eq_true ⟨rfl, rfl⟩]; rintro e w2 ⟨rfl, bb⟩; replace K := Lib.hid (K.out.step bb); clear bb y0 y1 y2 y3 y4 u0 u1 u2 u3 u4))
  go_ret
  exact ⟨rfl, K.out.now.1.2.2⟩
end Go.Proofs.Ytmpliacojljchaa

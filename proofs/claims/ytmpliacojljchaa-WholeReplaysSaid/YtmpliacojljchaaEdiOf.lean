/-
  The landed Of: layer 7.
-/
import Derived.Test.YtmpliacojljchaaEdiInv
namespace Go.Proofs.Ytmpliacojljchaa
open Go.RowKit

theorem givesE_zero {w w3 : World} {gr : Nat} {v0 v1 v2 v3 v4 : Value} (hb : Below w.heap.size w w3) (hg : Blk w3 gr 29 #[v0, v1, v2, v3, v4]) (h1 : w.heap.size ≤ gr) (n : Nat) :
    Blk (((((w3.setCell ⟨gr, 0, none⟩ (.int .i64 0)).setCell ⟨gr, 1, none⟩ (.string ⟨#[]⟩)).setCell ⟨gr, 2, none⟩ (.slice none 0 0)).setCell ⟨gr, 3, none⟩ (.string ⟨#[]⟩)).setCell ⟨gr, 4, none⟩ (.slice none 0 0)) gr 29 #[.int .i64 0, .string ⟨#[]⟩, .slice none 0 0, .string ⟨#[]⟩, .slice none 0 0] ∧
    GivesE w (⟨0, [], [], [], []⟩, n) (.returned (.tuple #[.agg #[.int .i64 0, .string ⟨#[]⟩, .slice none 0 0, .string ⟨#[]⟩, .slice none 0 0], .int .i64 (n : Nat)])) (((((w3.setCell ⟨gr, 0, none⟩ (.int .i64 0)).setCell ⟨gr, 1, none⟩ (.string ⟨#[]⟩)).setCell ⟨gr, 2, none⟩ (.slice none 0 0)).setCell ⟨gr, 3, none⟩ (.string ⟨#[]⟩)).setCell ⟨gr, 4, none⟩ (.slice none 0 0)) := by
  have E := edit_end (A := none) (A2 := none) (l := []) (m := []) (s := ⟨#[]⟩) (x := ⟨#[]⟩) 0 hb hg h1 (.inl rfl) (.inl rfl) (.slice none 0 0) (.slice none 0 0)
  exact ⟨E.1, none, 0, none, 0, rfl, E.2.1, E.2.2.1, E.2.2.2⟩
theorem givesEN_zero {w w3 : World} {gr : Nat} {v0 v1 v2 v3 v4 : Value} (hb : Below w.heap.size w w3) (hg : Blk w3 gr 29 #[v0, v1, v2, v3, v4]) (h1 : w.heap.size ≤ gr) (n : Nat) :
    Blk (((((w3.setCell ⟨gr, 0, none⟩ (.int .i64 0)).setCell ⟨gr, 1, none⟩ (.string ⟨#[]⟩)).setCell ⟨gr, 2, none⟩ (.slice none 0 0)).setCell ⟨gr, 3, none⟩ (.string ⟨#[]⟩)).setCell ⟨gr, 4, none⟩ (.slice none 0 0)) gr 29 #[.int .i64 0, .string ⟨#[]⟩, .slice none 0 0, .string ⟨#[]⟩, .slice none 0 0] ∧
    GivesEN w (⟨0, [], [], [], []⟩, n) (.returned (.tuple #[.agg #[.int .i64 0, .string ⟨#[]⟩, .slice none 0 0, .string ⟨#[]⟩, .slice none 0 0], .int .i64 (n : Nat)])) (((((w3.setCell ⟨gr, 0, none⟩ (.int .i64 0)).setCell ⟨gr, 1, none⟩ (.string ⟨#[]⟩)).setCell ⟨gr, 2, none⟩ (.slice none 0 0)).setCell ⟨gr, 3, none⟩ (.string ⟨#[]⟩)).setCell ⟨gr, 4, none⟩ (.slice none 0 0)) := by
  have E := edit_end (A := none) (A2 := none) (l := []) (m := []) (s := ⟨#[]⟩) (x := ⟨#[]⟩) 0 hb hg h1 (.inl rfl) (.inl rfl) (.slice none 0 0) (.slice none 0 0)
  exact ⟨E.1, none, 0, none, 0, rfl, .inl rfl, .inl rfl, E.2.2.2⟩
theorem two_far {w : World} {g T : Nat} {a b : Value} (h : Blk w g T #[a, b]) {k : Nat} (hk : g ≠ k) (v x y z u : Value) :
    (((((w.setCell ⟨k, 0, none⟩ v).setCell ⟨k, 1, none⟩ x).setCell ⟨k, 2, none⟩ y).setCell ⟨k, 3, none⟩ z).setCell ⟨k, 4, none⟩ u).cell? ⟨g, 0, none⟩ = some a ∧
    (((((w.setCell ⟨k, 0, none⟩ v).setCell ⟨k, 1, none⟩ x).setCell ⟨k, 2, none⟩ y).setCell ⟨k, 3, none⟩ z).setCell ⟨k, 4, none⟩ u).cell? ⟨g, 1, none⟩ = some b :=
  txt_cells (((((h.far (p := ⟨k, 0, none⟩) hk v).far (p := ⟨k, 1, none⟩) hk x).far (p := ⟨k, 2, none⟩) hk y).far (p := ⟨k, 3, none⟩) hk z).far (p := ⟨k, 4, none⟩) hk u)

set_option maxHeartbeats 2000000 in
theorem ediOf_new (A A2 : Option Addr) (c d : Nat) (S : List UInt8) (l : List RunP) (f t : Int) (X : List UInt8) (m : List RunP) (hm : m.length ≤ 1000000) (w : World) (h : Txu w A S l) (hX : Txu w A2 X m) :
    Calls Try.prog 11 #[.agg #[.string ⟨S.toArray⟩, .slice A l.length c], .int .i64 f, .int .i64 t, .agg #[.string ⟨X.toArray⟩, .slice A2 m.length d]] w (GivesEN w (ofE S l f t X m)) := by
  have FL := Lib.hid (And.intro h.hf hX.hf)
  have BX := Lib.hid (boxesE3 w 24 24 29 #[.string ⟨S.toArray⟩, .slice A l.length c] #[.string ⟨X.toArray⟩, .slice A2 m.length d] #[.int .i64 0, .string ⟨#[]⟩, .slice none 0 0, .string ⟨#[]⟩, .slice none 0 0])
  have K := Lib.hid (BX.out.and (((grow_txu h).and (grow_txu hX)).step BX.out.now.2.2.2))
  clear h hX BX
  obtain ⟨y0, y1⟩ := txt_cells K.out.now.1.1
  obtain ⟨z0, z1⟩ := txt_cells K.out.now.1.2.1
  obtain ⟨⟨u0, u1, u2, u3, u4⟩, u5, u6, u7, u8, u9⟩ := ed_var K.out.now.1.2.2.1
  obtain ⟨p, hp⟩ : ∃ p, cutOf S l f t = p := ⟨_, rfl⟩
  have HOK : Hid (OkT p) := by show OkT _; rw [← hp]; exact okT_cut FL.out.1 _ _
  have HP := Lib.hid hp
  clear hp
  obtain ⟨⟨V, r⟩, n⟩ := p
  by_cases hn : n = 0
  · subst hn
    obtain ⟨p2, hp2⟩ : ∃ p, spliceT S l f t X m = p := ⟨_, rfl⟩
    have HOK2 : Hid (OkT p2) := by show OkT _; rw [← hp2]; exact okT_splice FL.out.1 FL.out.2 _ _
    have HP2 := Lib.hid hp2
    clear hp2
    obtain ⟨⟨V2, r2⟩, k⟩ := p2
    by_cases hk : k = 0
    · subst hk
      have HR : Hid (ofE S l f t X m = (⟨f, V, r, X, m⟩, 0)) := by show _ = _; unfold ofE; rw [HP.out, HP2.out]; rfl
      go_enter Try.func11, Try.ntmps11
      go_upto_region 7 with (first
        | (go_at_call 27; refine (stpCut_any A c _ S l f t _ (Nat.le_refl _) K.out.now.2.1).mono ?_; rw [HP.out]; rintro e w2 ⟨A4, c4, rfl, own, bb⟩; dsimp only at own ⊢; have Z := K.out.now.1.2.2.1.lt; have Z2 := bb.size; replace K := Lib.hid (((K.out.step bb).own Z own).var (c := c4) (HOK.out.txt (Row.of_own own))); clear y0 y1 z0 z1 u0 u1 u2 u3 u4 u5 u6 u7 u8 u9; clear own bb; obtain ⟨y0, y1⟩ := txt_cells K.out.now.2.2.1.1; obtain ⟨z0, z1⟩ := txt_cells K.out.now.2.2.1.2.1; obtain ⟨⟨u0, u1, u2, u3, u4⟩, u5, u6, u7, u8, u9⟩ := ed_var K.out.now.2.2.1.2.2.1)
        | (go_at_call 28; refine (stpSplice_any A A2 c d _ _ S X l m f t _ (Nat.le_refl _) (Nat.le_refl _) K.out.now.2.2.2.1 K.out.now.2.2.2.2).mono ?_; rw [HP2.out]; rintro e w3 ⟨A5, c5, rfl, own, bb⟩; dsimp only at own ⊢; replace K := Lib.hid ((K.out.step bb).var (c := c5) (HOK2.out.txt (Row.of_own own))); clear y0 y1 z0 z1 u0 u1 u2 u3 u4 u5 u6 u7 u8 u9; clear own bb; obtain ⟨y0, y1⟩ := txt_cells K.out.now.2.2.2.1.1; obtain ⟨z0, z1⟩ := txt_cells K.out.now.2.2.2.1.2.1; obtain ⟨⟨u0, u1, u2, u3, u4⟩, u5, u6, u7, u8, u9⟩ := ed_var K.out.now.2.2.2.1.2.2.1))
      generalize w3.alloc (.cells #[.string ⟨V2.toArray⟩, .slice A5 r2.length c5] 24) = wb at *
      generalize w2.heap.size = g10 at *
      clear y0 y1 z0 z1 u0 u1 u2 u3 u4 u5 u6 u7 u8 u9
      have hb0 : Below wb.heap.size wb wb := Below.refl _ _
      have Z3 : Hid (w.heap.size + 1 + 1 < wb.heap.size) := K.out.now.2.2.2.1.2.2.1.lt
      have ZN : Hid (g10 ≠ w.heap.size + 1 + 1 ∧ w.heap.size + 1 ≠ w.heap.size + 1 + 1) := ⟨by omega, by omega⟩
      clear Z Z2
      have TM := Lib.hid (copied_in (A := A2) (c := d) (S := X) hm Z3.out (fun w' hb => (K.out w' hb).2.2.2.2.2))
      have KB := Lib.hid (fun w' hb => And.intro (txt_cells (K.out w' hb).2.1.1) (txt_cells (K.out w' hb).2.2.2.1.2.1))
      go_region_held3 (fun w' => (w'.cell? ⟨g10, 0, none⟩ = some (.string ⟨V.toArray⟩) ∧ w'.cell? ⟨g10, 1, none⟩ = some (.slice A4 r.length c4)) ∧ w'.cell? ⟨w.heap.size + 1, 0, none⟩ = some (.string ⟨X.toArray⟩) ∧ w'.cell? ⟨w.heap.size + 1, 1, none⟩ = some (.slice A2 m.length d))
        (first
          | (refine KB.out _ ?_; first | assumption | exact belowE_dr hb0)
          | (refine And.intro (two_far (K.out _ ?_).2.1.1 ZN.out.1 _ _ _ _ _) (two_far (K.out _ ?_).2.2.2.1.2.1 ZN.out.2 _ _ _ _ _) <;> (first | assumption | exact belowE_dr hb0)))
        (first
          | (go_at_call 29; refine (TM.out _ ?_).mono ?_; (first | assumption | exact belowE_dr hb0); rintro e w4 ⟨A6, c6, rfl, rm, hbx, hby⟩; obtain ⟨⟨u0, u1, u2, u3, u4⟩, u5, u6, u7, u8, u9⟩ := ed_var (K.out _ hbx).2.2.2.1.2.2.1))
      all_goals go_wp2
      all_goals
        have E := edit_end f (K.out _ hbx).2.2.2.1.2.2.2 (K.out _ hbx).2.2.2.1.2.2.1 (by omega) (A := A4) (A2 := A6) (l := r) (m := m) (s := ⟨V.toArray⟩) (x := ⟨X.toArray⟩) ((K.out _ hbx).2.2.1.toN (Nat.lt_succ_self _)) (rm.out.now.toN (Nat.lt_succ_self _)) (.slice A4 r.length c4) (.slice A6 m.length c6)
        refine ret_edit rfl _ _ (w.heap.size + 1 + 1) _ _ _ _ _ rfl E.1 rfl ?_
        rw [HR.out]
        exact ⟨A4, c4, A6, c6, rfl, ((K.out _ hbx).2.2.1.five (Nat.lt_succ_self _) _ _ _ _ _).less (by omega), (rm.out.now.five (Nat.lt_succ_self _) _ _ _ _ _).less (by omega), E.2.2.2⟩
    · have HR : Hid (ofE S l f t X m = (⟨0, [], [], [], []⟩, k)) := by show _ = _; unfold ofE; rw [HP.out, HP2.out]; dsimp only; rw [if_pos rfl, if_neg hk]
      have hk' : ((k : Int) == 0) = false := by simp; omega
      clear hk
      go_enter Try.func11, Try.ntmps11
      go_wp2_with (first
        | (go_at_call 27; refine (stpCut_any A c _ S l f t _ (Nat.le_refl _) K.out.now.2.1).mono ?_; rw [HP.out]; rintro e w2 ⟨A4, c4, rfl, own, bb⟩; dsimp only at own ⊢; have Z := K.out.now.1.2.2.1.lt; have Z2 := bb.size; replace K := Lib.hid (((K.out.step bb).own Z own).var (c := c4) (HOK.out.txt (Row.of_own own))); clear y0 y1 z0 z1 u0 u1 u2 u3 u4 u5 u6 u7 u8 u9; clear own bb; obtain ⟨y0, y1⟩ := txt_cells K.out.now.2.2.1.1; obtain ⟨z0, z1⟩ := txt_cells K.out.now.2.2.1.2.1; obtain ⟨⟨u0, u1, u2, u3, u4⟩, u5, u6, u7, u8, u9⟩ := ed_var K.out.now.2.2.1.2.2.1)
        | (go_at_call 28; refine (stpSplice_any A A2 c d _ _ S X l m f t _ (Nat.le_refl _) (Nat.le_refl _) K.out.now.2.2.2.1 K.out.now.2.2.2.2).mono ?_; rw [HP2.out]; rintro e w3 ⟨A5, c5, rfl, own, bb⟩; dsimp only at own ⊢; replace K := Lib.hid ((K.out.step bb).var (c := c5) (HOK2.out.txt (Row.of_own own))); clear y0 y1 z0 z1 u0 u1 u2 u3 u4 u5 u6 u7 u8 u9; clear own bb; obtain ⟨y0, y1⟩ := txt_cells K.out.now.2.2.2.1.1; obtain ⟨z0, z1⟩ := txt_cells K.out.now.2.2.2.1.2.1; obtain ⟨⟨u0, u1, u2, u3, u4⟩, u5, u6, u7, u8, u9⟩ := ed_var K.out.now.2.2.2.1.2.2.1))
      have E := givesEN_zero K.out.now.2.2.2.1.2.2.2 K.out.now.2.2.2.1.2.2.1 (by omega) k
      refine ret_edit rfl _ _ (w.heap.size + 1 + 1) _ _ _ _ _ rfl E.1 rfl ?_
      rw [HR.out]
      exact E.2
  · have HR : Hid (ofE S l f t X m = (⟨0, [], [], [], []⟩, n)) := by show _ = _; unfold ofE; rw [HP.out]; dsimp only; rw [if_neg hn]
    have hn' : ((n : Int) == 0) = false := by simp; omega
    clear hn
    go_enter Try.func11, Try.ntmps11
    go_wp2_with (go_at_call 27; refine (stpCut_any A c _ S l f t _ (Nat.le_refl _) K.out.now.2.1).mono ?_; rw [HP.out]; rintro e w2 ⟨A4, c4, rfl, own, bb⟩; dsimp only at own ⊢; have Z := K.out.now.1.2.2.1.lt; have Z2 := bb.size; replace K := Lib.hid (((K.out.step bb).own Z own).var (c := c4) (HOK.out.txt (Row.of_own own))); clear y0 y1 z0 z1 u0 u1 u2 u3 u4 u5 u6 u7 u8 u9; clear own bb; obtain ⟨y0, y1⟩ := txt_cells K.out.now.2.2.1.1; obtain ⟨z0, z1⟩ := txt_cells K.out.now.2.2.1.2.1; obtain ⟨⟨u0, u1, u2, u3, u4⟩, u5, u6, u7, u8, u9⟩ := ed_var K.out.now.2.2.1.2.2.1)
    have E := givesEN_zero K.out.now.2.2.1.2.2.2 K.out.now.2.2.1.2.2.1 (by omega) n
    refine ret_edit rfl _ _ (w.heap.size + 1 + 1) _ _ _ _ _ rfl E.1 rfl ?_
    rw [HR.out]
    exact E.2
theorem ediOf_any (A A2 : Option Addr) (c d : Nat) (S : List UInt8) (l : List RunP) (f t : Int) (X : List UInt8) (m : List RunP) (hm : m.length ≤ 1000000) (w : World) (h : Txu w A S l) (hX : Txu w A2 X m) :
    Calls Try.prog 11 #[.agg #[.string ⟨S.toArray⟩, .slice A l.length c], .int .i64 f, .int .i64 t, .agg #[.string ⟨X.toArray⟩, .slice A2 m.length d]] w (GivesE w (ofE S l f t X m)) := (ediOf_new A A2 c d S l f t X m hm w h hX).mono fun _ _ h => h.gives
end Go.Proofs.Ytmpliacojljchaa

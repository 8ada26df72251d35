/-
  The reference's Put, walked: layer 5.
-/
import Derived.Test.YtacpfkkbjibmgaaPieRef
import Derived.Test.YtacpfkkbjibmgaaPieApart
namespace Go.Proofs.Ytacpfkkbjibmgaa
open Go.RowKit

theorem kept_facts : (∃ fs, Try.prog.underlying 30 = some (.struct fs)) ∧ (Try.prog.info? 30).map (·.size) = some 3 := ⟨⟨_, Try.underlying30⟩, by kernel_rfl⟩
/-- the reference's store in a variable, and a number, handed back -/
theorem ret_kept {fn : Func} {p u : Tmp} (h : fn.results = #[.cell p 30, .tmp u]) (a : Act) (w : World) (g : Nat) (s v n : Value) (hp : a.tmps.getD p undef = .pointer (some ⟨g, 0, none⟩)) (hg : Blk w g 30 #[s, v, n]) (hd : a.defers = [])
    {Q : Ending → World → Prop} (hQ : Q (.returned (.tuple #[.agg #[s, v, n], a.tmps.getD u undef])) w) : bodyPost Try.prog fn Q .ret a w := by
  obtain ⟨⟨fs, hu⟩, hi⟩ := kept_facts
  refine bodyPost_ret (v := .tuple #[.agg #[s, v, n], a.tmps.getD u undef]) ?_ hd hQ
  have hp' : a.tmps[p]?.getD undef = .pointer (some ⟨g, 0, none⟩) := by simpa using hp
  rw [results_cell_tmp h]
  simp [hp', asAddr, run_loadVar_row w g 30 30 #[s, v, n] (0, 0) _ hg hu rfl hi]

/-- the reference's answer: a text, its limit and a number -/
def GivesP (w : World) (O : Nat → Prop) (most : Int) (S : List UInt8) (l : List RunP) (n : Nat) (e : Ending) (w' : World) : Prop :=
  ∃ A c, e = .returned (.tuple #[.agg #[.string ⟨S.toArray⟩, .slice A l.length c, .int .i64 most], .int .i64 (n : Nat)]) ∧ RowF w' O A (flatR l) ∧ Below w.heap.size w w'

theorem blk_set3 {w : World} {g T : Nat} {a b c : Value} (h : Blk w g T #[a, b, c]) (x y z : Value) : Blk (((w.setCell ⟨g, 0, none⟩ x).setCell ⟨g, 1, none⟩ y).setCell ⟨g, 2, none⟩ z) g T #[x, y, z] := by
  have := ((h.set_ 0 x).set_ 1 y).set_ 2 z
  simpa using this
theorem three_vals {w : World} {g T : Nat} {a b c : Value} (h : Blk w g T #[a, b, c]) : w.cell? ⟨g, 0, none⟩ = some a ∧ w.cell? ⟨g, 1, none⟩ = some b ∧ w.cell? ⟨g, 2, none⟩ = some c ∧ w.frozen? ⟨g, 0, none⟩ = false ∧ w.frozen? ⟨g, 1, none⟩ = false ∧ w.frozen? ⟨g, 2, none⟩ = false :=
  ⟨by have := h.cell 0; simpa using this, by have := h.cell 1; simpa using this, by have := h.cell 2; simpa using this, h.frozen 0, h.frozen 1, h.frozen 2⟩
theorem put_boxes (w : World) (T0 T1 T2 : TypeId) (a b n c d : Value) :
    Below w.heap.size w (((w.alloc (.cells #[a, b, n] T0)).alloc (.cells #[c, d] T1)).alloc (.cells #[.string ⟨#[]⟩, .slice none 0 0, .int .i64 0] T2)) ∧ (((w.alloc (.cells #[a, b, n] T0)).alloc (.cells #[c, d] T1)).alloc (.cells #[.string ⟨#[]⟩, .slice none 0 0, .int .i64 0] T2)).heap.size = w.heap.size + 3 ∧
    Blk (((w.alloc (.cells #[a, b, n] T0)).alloc (.cells #[c, d] T1)).alloc (.cells #[.string ⟨#[]⟩, .slice none 0 0, .int .i64 0] T2)) w.heap.size T0 #[a, b, n] ∧ Blk (((w.alloc (.cells #[a, b, n] T0)).alloc (.cells #[c, d] T1)).alloc (.cells #[.string ⟨#[]⟩, .slice none 0 0, .int .i64 0] T2)) (w.heap.size + 1) T1 #[c, d] ∧
    Blk (((w.alloc (.cells #[a, b, n] T0)).alloc (.cells #[c, d] T1)).alloc (.cells #[.string ⟨#[]⟩, .slice none 0 0, .int .i64 0] T2)) (w.heap.size + 1 + 1) T2 #[.string ⟨#[]⟩, .slice none 0 0, .int .i64 0] := by
  have e0 : (w.alloc (.cells #[a, b, n] T0)).heap.size = w.heap.size + 1 := by simp
  have e : ((w.alloc (.cells #[a, b, n] T0)).alloc (.cells #[c, d] T1)).heap.size = w.heap.size + 1 + 1 := by simp
  have h0 := Blk.new w T0 #[a, b, n]
  have h1 := Blk.new (w.alloc (.cells #[a, b, n] T0)) T1 #[c, d]
  rw [e0] at h1
  refine ⟨((((Below.refl w.heap.size w).alloc (Nat.le_refl _) _).alloc (by omega) _).alloc (by omega) _), by simp, (h0.alloc _).alloc _, h1.alloc _, ?_⟩
  rw [← e]; exact Blk.new _ _ _

set_option maxHeartbeats 2000000 in
theorem refPut_any (O : Nat → Prop) (A A2 : Option Addr) (c d : Nat) (S X : List UInt8) (b : List Nat) (m : List RunP) (most : Nat) (f t : Int) (w : World) (hO : ∀ k, O k → k < w.heap.size) (hr : RowF w O A (flatR (pack b))) (hlt : ∀ x ∈ b, x < 18446744073709551616) (hh : Txt w w.heap.size A2 X m) (hb : b.length = S.length) (hS : S.length ≤ most) (h4 : most ≤ 4096) :
    Calls Try.prog 14 #[.agg #[.string ⟨S.toArray⟩, .slice A (pack b).length c, .int .i64 (most : Nat)], .int .i64 f, .int .i64 t, .agg #[.string ⟨X.toArray⟩, .slice A2 m.length d]] w (GivesP w O most (putS S most f t X m) (pack (putB S b most f t X m)) (putE S most f t X m)) := by
  have hpl := pack_len b
  have HH : Hid (Txt w w.heap.size A S (pack b)) := ⟨by unfold maxLen; omega, fits_pack hlt (by omega), by unfold maxLen; omega, hr.row⟩
  have HH2 := Lib.hid hh
  have HR := Lib.hid hr
  have HO := Lib.hid hO
  have Q := Lib.hid (put_boxes w 30 28 30 (.string ⟨S.toArray⟩) (.slice A (pack b).length c) (.int .i64 (most : Nat)) (.string ⟨X.toArray⟩) (.slice A2 m.length d))
  have h3 := put_ref (f := f) (t := t) (X := X) (m := m) hb hS h4
  have HPB := Lib.hid (fun h => put_bad (S := S) (b := b) (most := most) (f := f) (t := t) (X := X) (m := m) h)
  obtain ⟨⟨⟨U, L⟩, n⟩, hsp⟩ : ∃ r, spliceT S (pack b) f t X m = r := ⟨_, rfl⟩
  rw [hsp] at h3
  have HSP := Lib.hid hsp
  have hN : n = 2 ∨ n = 3 ∨ n = 0 := by
    rcases h3 with ⟨_, h⟩ | ⟨_, h | h⟩ | ⟨_, h, _⟩
    · simp at h; omega
    · exact .inr (.inl h)
    · exact .inr (.inr h.1)
    · simp at h; omega
  clear hh hr hO hsp hpl
  go_enter Try.func14, Try.ntmps14
  go_upto_region 1 with (fail)
  obtain ⟨q1, q2, q3, q4, q5⟩ := Q.out
  generalize ((w.alloc (.cells #[.string ⟨S.toArray⟩, .slice A (pack b).length c, .int .i64 (most : Nat)] 30)).alloc (.cells #[.string ⟨X.toArray⟩, .slice A2 m.length d] 28)).alloc (.cells #[.string ⟨#[]⟩, .slice none 0 0, .int .i64 0] 30) = w0 at *
  have QB := Lib.hid q1
  have G4 := Lib.hid q3
  have G7 := Lib.hid q4
  have G8 := Lib.hid q5
  obtain ⟨y0, y1, y2, _, _, _⟩ := three_vals q3
  obtain ⟨y3, y4⟩ := txt_cells q4
  clear q1 q3 q4 q5 Q
  go_upto_region 2 with (go_at_call 29; refine (refTSplice_any A A2 c d w.heap.size w.heap.size S X (pack b) m f t w0 (by omega) (by omega) (HH.out.below QB.out) (HH2.out.below QB.out)).mono ?_; rw [HSP.out]; rintro e w1 ⟨A1, c1, rfl, own1, b1⟩; dsimp only at own1 ⊢)
  have z1 := b1.size
  have hz2 : (w1.alloc (.cells #[.string ⟨U.toArray⟩, .slice A1 L.length c1] 28)).heap.size = w1.heap.size + 1 := by simp
  have b2 : Below w0.heap.size w0 (w1.alloc (.cells #[.string ⟨U.toArray⟩, .slice A1 L.length c1] 28)) := b1.alloc z1 _
  have G10 := Lib.hid (Blk.new w1 28 #[.string ⟨U.toArray⟩, .slice A1 L.length c1])
  have own2 : (w1.alloc (.cells #[.string ⟨U.toArray⟩, .slice A1 L.length c1] 28)).ownsRow w0.heap.size 58 2 (.slice A1 L.length c1) L.length (flatR L) := own1.alloc _
  generalize w1.alloc (.cells #[.string ⟨U.toArray⟩, .slice A1 L.length c1] 28) = w2 at *
  have G42 := Lib.hid (G4.out.below b2 (by omega))
  have G82 := Lib.hid (G8.out.below b2 (by omega))
  have B2 := Lib.hid (QB.out.trans (b2.mono (by omega)))
  have O2 := Lib.hid own2
  clear own1 own2 b1 b2 G4 G8 G7 y0 y1 y2 y3 y4 QB
  obtain ⟨y0, y1, y2, x0, x1, x2⟩ := three_vals G42.out
  obtain ⟨v0, v1, v2, u0, u1, u2⟩ := three_vals G82.out
  obtain ⟨y3, y4⟩ := txt_cells G10.out
  have hend : ∀ w3 : World, Chg (fun k => w.heap.size ≤ k) w2 w3 → Below w.heap.size w w3 := fun w3 h => B2.out.trans (h.below (by omega) (fun k hk => hk))
  have HEND := Lib.hid hend
  clear hend
  have HE3 : Hid (∀ (x y z : Value), Below w.heap.size w (((w2.setCell ⟨w.heap.size + 1 + 1, 0, none⟩ x).setCell ⟨w.heap.size + 1 + 1, 1, none⟩ y).setCell ⟨w.heap.size + 1 + 1, 2, none⟩ z)) := fun x y z => HEND.out _ ((chg_set3 w2 (w.heap.size + 1 + 1) 0 1 2 x y z).more (fun k _ h => by omega))
  rcases h3 with ⟨he, h⟩ | ⟨he, h⟩ | ⟨he, h, hle⟩
  · obtain ⟨⟨rfl, rfl⟩, rfl⟩ : (U = [] ∧ L = []) ∧ n = 2 := by simpa using h
    have HE := Lib.hid he
    clear he
    go_wp2_with fail
    refine ret_kept rfl _ _ (w.heap.size + 1 + 1) _ _ _ rfl (blk_set3 G82.out _ _ _) rfl ?_
    have hp := HPB.out (by rw [HE.out]; omega)
    rw [hp.1, hp.2, HE.out]
    exact ⟨A, c, rfl, HR.out.chg (Chg.of_fresh (HE3.out _ _ _)), HE3.out _ _ _⟩
  · have HE := Lib.hid he
    have hp := HPB.out (by rw [he]; omega)
    have HP := Lib.hid hp
    clear he hp HPB
    rcases h with h | ⟨h, hl⟩
    · dsimp only at h
      subst h
      go_wp2_with fail
      refine ret_kept rfl _ _ (w.heap.size + 1 + 1) _ _ _ rfl (blk_set3 G82.out _ _ _) rfl ?_
      rw [HP.out.1, HP.out.2, HE.out]
      exact ⟨A, c, rfl, HR.out.chg (Chg.of_fresh (HE3.out _ _ _)), HE3.out _ _ _⟩
    · dsimp only at h hl
      subst h
      have hd : ((most : Int) < (U.length : Int)) := by omega
      go_wp2_with fail
      refine ret_kept rfl _ _ (w.heap.size + 1 + 1) _ _ _ rfl (blk_set3 G82.out _ _ _) rfl ?_
      rw [HP.out.1, HP.out.2, HE.out]
      exact ⟨A, c, rfl, HR.out.chg (Chg.of_fresh (HE3.out _ _ _)), HE3.out _ _ _⟩
  · obtain ⟨⟨rfl, rfl⟩, rfl⟩ : (U = putS S most f t X m ∧ L = pack (putB S b most f t X m)) ∧ n = 0 := by simpa using h
    have HE := Lib.hid he
    clear he HPB h
    generalize putS S most f t X m = U at *
    generalize pack (putB S b most f t X m) = L at *
    have hd : ¬ ((most : Int) < (U.length : Int)) := by omega
    have HF : Hid (RowF w2 (fun k => k < w0.heap.size) A1 (flatR L)) := RowF.of_own O2.out (fun k hk _ ho => by omega)
    go_wp2_with fail
    have hc1 : Chg (fun k => k = w.heap.size ∨ k = w.heap.size + 1 + 1) w2 ((((w2.setCell ⟨w.heap.size, 0, none⟩ (.string ⟨U.toArray⟩)).setCell ⟨w.heap.size, 1, none⟩ (.slice A1 L.length c1)).setCell ⟨w.heap.size + 1 + 1, 0, none⟩ (.string ⟨U.toArray⟩)).setCell ⟨w.heap.size + 1 + 1, 1, none⟩ (.slice A1 L.length c1) |>.setCell ⟨w.heap.size + 1 + 1, 2, none⟩ (.int .i64 (most : Nat))) :=
      ((chg_set2 w2 w.heap.size 0 1 _ _).more (fun k _ h => .inl h)).trans ((chg_set3 _ (w.heap.size + 1 + 1) 0 1 2 _ _ _).more (fun k _ h => .inr h))
    refine ret_kept rfl _ _ (w.heap.size + 1 + 1) _ _ _ rfl (blk_set3 (G82.out.chg (chg_set2 w2 w.heap.size 0 1 _ _) (by omega)) _ _ _) rfl ?_
    rw [HE.out]
    exact ⟨A1, c1, rfl, (HF.out.chg (hc1.more (fun k _ h => by show k < w0.heap.size; omega))).less (fun k _ h => by have := HO.out k h; show k < w0.heap.size; omega), HEND.out _ (hc1.more (fun k _ h => by omega))⟩
end Go.Proofs.Ytacpfkkbjibmgaa

/-
  The landed history's edits: is one good, a copy; the inverse, whose runs are new: layer 8.
-/
import Derived.Test.YtfeaffabminpfaaHiWords
import Derived.Test.YtfeaffabminpfaaEdiGood
import Derived.Test.YtfeaffabminpfaaEdiInv
import Derived.Deep.RegionWith
namespace Go.Proofs.Ytfeaffabminpfaa
open Go.RowKit

set_option maxHeartbeats 1000000 in
theorem hiGood_any (A A2 : Option Addr) (c d : Nat) (a : Int) (S X : List UInt8) (l m : List RunP) (w : World) (h : Txu w A S l) (hh : Txu w A2 X m) :
    Calls Try.prog 37 #[.agg #[.int .i64 a, .string ⟨S.toArray⟩, .slice A l.length c, .string ⟨X.toArray⟩, .slice A2 m.length d]] w fun e w' => e = .returned (.bool (goodE a S l X m)) ∧ Below w.heap.size w w' := by
  have K := Lib.hid ((blk_box (T := 34) (cs := #[.int .i64 a, .string ⟨S.toArray⟩, .slice A l.length c, .string ⟨X.toArray⟩, .slice A2 m.length d]) w).and ((bel_box (Below.refl w.heap.size w) (.cells #[.int .i64 a, .string ⟨S.toArray⟩, .slice A l.length c, .string ⟨X.toArray⟩, .slice A2 m.length d] 34)).and (((grow_txu h).alloc (.cells #[.int .i64 a, .string ⟨S.toArray⟩, .slice A l.length c, .string ⟨X.toArray⟩, .slice A2 m.length d] 34)).and ((grow_txu hh).alloc (.cells #[.int .i64 a, .string ⟨S.toArray⟩, .slice A l.length c, .string ⟨X.toArray⟩, .slice A2 m.length d] 34)))))
  clear h hh
  obtain ⟨y0, y1, y2, y3, y4⟩ := ed_cells K.out.now.1
  by_cases h1 : goodT S l = true
  · by_cases h2 : goodT X m = true
    · by_cases h3 : 0 ≤ a
      · by_cases h4 : a ≤ 4096
        · have HR : Hid (goodE a S l X m = true) := (goodE_iff _ _ _ _ _).2 ⟨h1, h2, h3, h4⟩
          go_enter Try.func37, Try.ntmps37
          go_wp2_with (first
            | (go_at_call_of 52 l; refine (stpGood_any A c _ S l _ (Nat.le_refl _) K.out.now.2.2.1).mono ?_; rw [h1]; rintro e w1 ⟨rfl, bb⟩; replace K := Lib.hid (K.out.step bb); clear y0 y1 y2 y3 y4 bb; obtain ⟨y0, y1, y2, y3, y4⟩ := ed_cells K.out.now.1)
            | (go_at_call_of 52 m; refine (stpGood_any A2 d _ X m _ (Nat.le_refl _) K.out.now.2.2.2).mono ?_; rw [h2]; rintro e w2 ⟨rfl, bb⟩; replace K := Lib.hid (K.out.step bb); clear y0 y1 y2 y3 y4 bb; obtain ⟨y0, y1, y2, y3, y4⟩ := ed_cells K.out.now.1))
          go_ret
          exact ⟨by rw [HR.out]; first | rfl | (simp [h3, h4]; done), K.out.now.2.1⟩
        · have HR : Hid (goodE a S l X m = false) := by show _ = _; rw [Bool.eq_false_iff]; exact fun h => h4 ((goodE_iff _ _ _ _ _).1 h).2.2.2
          go_enter Try.func37, Try.ntmps37
          go_wp2_with (first
            | (go_at_call_of 52 l; refine (stpGood_any A c _ S l _ (Nat.le_refl _) K.out.now.2.2.1).mono ?_; rw [h1]; rintro e w1 ⟨rfl, bb⟩; replace K := Lib.hid (K.out.step bb); clear y0 y1 y2 y3 y4 bb; obtain ⟨y0, y1, y2, y3, y4⟩ := ed_cells K.out.now.1)
            | (go_at_call_of 52 m; refine (stpGood_any A2 d _ X m _ (Nat.le_refl _) K.out.now.2.2.2).mono ?_; rw [h2]; rintro e w2 ⟨rfl, bb⟩; replace K := Lib.hid (K.out.step bb); clear y0 y1 y2 y3 y4 bb; obtain ⟨y0, y1, y2, y3, y4⟩ := ed_cells K.out.now.1))
          go_ret
          exact ⟨by rw [HR.out]; first | rfl | (simp; omega), K.out.now.2.1⟩
      · have HR : Hid (goodE a S l X m = false) := by show _ = _; rw [Bool.eq_false_iff]; exact fun h => h3 ((goodE_iff _ _ _ _ _).1 h).2.2.1
        go_enter Try.func37, Try.ntmps37
        go_wp2_with (first
          | (go_at_call_of 52 l; refine (stpGood_any A c _ S l _ (Nat.le_refl _) K.out.now.2.2.1).mono ?_; rw [h1]; rintro e w1 ⟨rfl, bb⟩; replace K := Lib.hid (K.out.step bb); clear y0 y1 y2 y3 y4 bb; obtain ⟨y0, y1, y2, y3, y4⟩ := ed_cells K.out.now.1)
          | (go_at_call_of 52 m; refine (stpGood_any A2 d _ X m _ (Nat.le_refl _) K.out.now.2.2.2).mono ?_; rw [h2]; rintro e w2 ⟨rfl, bb⟩; replace K := Lib.hid (K.out.step bb); clear y0 y1 y2 y3 y4 bb; obtain ⟨y0, y1, y2, y3, y4⟩ := ed_cells K.out.now.1))
        go_ret
        exact ⟨by rw [HR.out]; first | rfl | (simp; omega), K.out.now.2.1⟩
    · have HR : Hid (goodE a S l X m = false) := by show _ = _; rw [Bool.eq_false_iff]; exact fun h => h2 ((goodE_iff _ _ _ _ _).1 h).2.1
      rw [Bool.not_eq_true] at h2
      go_enter Try.func37, Try.ntmps37
      go_wp2_with (first
        | (go_at_call_of 52 l; refine (stpGood_any A c _ S l _ (Nat.le_refl _) K.out.now.2.2.1).mono ?_; rw [h1]; rintro e w1 ⟨rfl, bb⟩; replace K := Lib.hid (K.out.step bb); clear y0 y1 y2 y3 y4 bb; obtain ⟨y0, y1, y2, y3, y4⟩ := ed_cells K.out.now.1)
        | (go_at_call_of 52 m; refine (stpGood_any A2 d _ X m _ (Nat.le_refl _) K.out.now.2.2.2).mono ?_; rw [h2]; rintro e w2 ⟨rfl, bb⟩; replace K := Lib.hid (K.out.step bb); clear y0 y1 y2 y3 y4 bb; obtain ⟨y0, y1, y2, y3, y4⟩ := ed_cells K.out.now.1))
      go_ret
      exact ⟨by rw [HR.out]; first | rfl | (simp; omega), K.out.now.2.1⟩
  · have HR : Hid (goodE a S l X m = false) := by show _ = _; rw [Bool.eq_false_iff]; exact fun h => h1 ((goodE_iff _ _ _ _ _).1 h).1
    rw [Bool.not_eq_true] at h1
    go_enter Try.func37, Try.ntmps37
    go_wp2_with (go_at_call_of 52 l; refine (stpGood_any A c _ S l _ (Nat.le_refl _) K.out.now.2.2.1).mono ?_; rw [h1]; rintro e w1 ⟨rfl, bb⟩; replace K := Lib.hid (K.out.step bb); clear y0 y1 y2 y3 y4 bb; obtain ⟨y0, y1, y2, y3, y4⟩ := ed_cells K.out.now.1)
    go_ret
    exact ⟨by rw [HR.out]; first | rfl | (simp; omega), K.out.now.2.1⟩

/-- runs in a row of their own -/
def OwnR (w : World) (base : Nat) (A : Option Addr) (c : Nat) (l : List RunP) : Prop := w.ownsRow base 71 2 (.slice A l.length c) l.length (flatR l)
section
variable {w wx : World} {b b' g : Nat} {A : Option Addr} {c : Nat} {l : List RunP}
theorem OwnR.rowG (h : OwnR w b A c l) : RowG w b A (flatR l) := rowG_own h
theorem OwnR.less (h : OwnR w b A c l) (hb : b' ≤ b) : OwnR w b' A c l := own_base h hb
theorem OwnR.set (h : OwnR w b A c l) (hg : g < b) (i : Nat) (u : Value) : OwnR (w.setCell ⟨g, i, none⟩ u) b A c l := own_away h (p := ⟨g, i, none⟩) hg u
theorem OwnR.five (h : OwnR w b A c l) (hg : g < b) (v x y z u : Value) :
    OwnR (((((w.setCell ⟨g, 0, none⟩ v).setCell ⟨g, 1, none⟩ x).setCell ⟨g, 2, none⟩ y).setCell ⟨g, 3, none⟩ z).setCell ⟨g, 4, none⟩ u) b A c l := ((((h.set hg 0 v).set hg 1 x).set hg 2 y).set hg 3 z).set hg 4 u
theorem grow_ownR (h : OwnR wx b A c l) : Grow wx (fun w' => OwnR w' b A c l) := by
  intro w' hb
  refine ⟨h.1, ?_⟩
  rcases h.2 with hn | ⟨g, cap, cur, e, hbg, hg, rest⟩
  · exact .inl hn
  · exact .inr ⟨g, cap, cur, e, hbg, (hb.block g (Array.getElem?_eq_some_iff.1 hg).1).trans hg, rest⟩
end
/-- a text copied, among others -/
theorem copied_own {wb : World} {g : Nat} {A : Option Addr} {c : Nat} {S : List UInt8} {l : List RunP} (hl : l.length ≤ 1000000) (hg : g < wb.heap.size) (hT : ∀ w', Below wb.heap.size wb w' → Txu w' A S l) :
    ∀ w', Below wb.heap.size wb w' → Calls Try.prog 50 #[.agg #[.string ⟨S.toArray⟩, .slice A l.length c]] w' fun e w'' => ∃ A' c', e = .returned (.agg #[.string ⟨S.toArray⟩, .slice A' l.length c']) ∧ Hid (Grow w'' (fun v => OwnR v (g + 1) A' c' l)) ∧ Below wb.heap.size wb w'' ∧ Below w'.heap.size w' w'' := by
  intro w' hb
  refine (ediCopied_any A c S l hl w' (hT w' hb)).mono ?_
  rintro e w'' ⟨A', c', rfl, own, bb⟩
  have := hb.size
  exact ⟨A', c', rfl, grow_ownR (OwnR.less (show OwnR w'' w'.heap.size A' c' l from own) (by omega)), hb.trans (bb.mono hb.size), bb⟩
/-- an edit alone, whose runs lie in memory that is new -/
def GivesE1N (w : World) (a : Int) (S : List UInt8) (l : List RunP) (X : List UInt8) (m : List RunP) (e : Ending) (w' : World) : Prop :=
  ∃ A c A2 d, e = .returned (.agg #[.int .i64 a, .string ⟨S.toArray⟩, .slice A l.length c, .string ⟨X.toArray⟩, .slice A2 m.length d]) ∧ OwnR w' w.heap.size A c l ∧ OwnR w' w.heap.size A2 d m ∧ Below w.heap.size w w'
/-- the world behind five stores, the runs being new -/
theorem edit_end_new {w w3 : World} {gr : Nat} {A A2 : Option Addr} {c d : Nat} {v0 v1 v2 v3 v4 : Value} {l m : List RunP} {s x : ByteArray} (a : Int) (hb : Below w.heap.size w w3) (hg : Blk w3 gr 34 #[v0, v1, v2, v3, v4]) (h1 : w.heap.size ≤ gr)
    (r1 : OwnR w3 (gr + 1) A c l) (r2 : OwnR w3 (gr + 1) A2 d m) (y z : Value) :
    Blk (((((w3.setCell ⟨gr, 0, none⟩ (.int .i64 a)).setCell ⟨gr, 1, none⟩ (.string s)).setCell ⟨gr, 2, none⟩ y).setCell ⟨gr, 3, none⟩ (.string x)).setCell ⟨gr, 4, none⟩ z) gr 34 #[.int .i64 a, .string s, y, .string x, z] ∧
    OwnR (((((w3.setCell ⟨gr, 0, none⟩ (.int .i64 a)).setCell ⟨gr, 1, none⟩ (.string s)).setCell ⟨gr, 2, none⟩ y).setCell ⟨gr, 3, none⟩ (.string x)).setCell ⟨gr, 4, none⟩ z) w.heap.size A c l ∧
    OwnR (((((w3.setCell ⟨gr, 0, none⟩ (.int .i64 a)).setCell ⟨gr, 1, none⟩ (.string s)).setCell ⟨gr, 2, none⟩ y).setCell ⟨gr, 3, none⟩ (.string x)).setCell ⟨gr, 4, none⟩ z) w.heap.size A2 d m ∧
    Below w.heap.size w (((((w3.setCell ⟨gr, 0, none⟩ (.int .i64 a)).setCell ⟨gr, 1, none⟩ (.string s)).setCell ⟨gr, 2, none⟩ y).setCell ⟨gr, 3, none⟩ (.string x)).setCell ⟨gr, 4, none⟩ z) := by
  have E := edit_end (s := s) (x := x) a hb hg h1 (r1.rowG.toN (Nat.lt_succ_self _)) (r2.rowG.toN (Nat.lt_succ_self _)) y z
  exact ⟨E.1, (r1.five (Nat.lt_succ_self _) _ _ _ _ _).less (by omega), (r2.five (Nat.lt_succ_self _) _ _ _ _ _).less (by omega), E.2.2.2⟩
set_option maxHeartbeats 2000000 in
theorem hiInvert_new (A A2 : Option Addr) (c d : Nat) (a : Int) (S : List UInt8) (l : List RunP) (X : List UInt8) (m : List RunP) (hl : l.length ≤ 1000000) (hm : m.length ≤ 1000000) (w : World) (h : Txu w A S l) (hX : Txu w A2 X m) :
    Calls Try.prog 32 #[.agg #[.int .i64 a, .string ⟨S.toArray⟩, .slice A l.length c, .string ⟨X.toArray⟩, .slice A2 m.length d]] w (GivesE1N w a X m S l) := by
  have BX := Lib.hid (boxesE2 w 34 34 #[.int .i64 a, .string ⟨S.toArray⟩, .slice A l.length c, .string ⟨X.toArray⟩, .slice A2 m.length d] #[.int .i64 0, .string ⟨#[]⟩, .slice none 0 0, .string ⟨#[]⟩, .slice none 0 0])
  have K := Lib.hid (BX.out.and (((grow_txu h).and (grow_txu hX)).step BX.out.now.2.2))
  clear h hX BX
  go_enter Try.func32, Try.ntmps32
  go_wp2_with fail
  generalize (w.alloc (.cells #[.int .i64 a, .string ⟨S.toArray⟩, .slice A l.length c, .string ⟨X.toArray⟩, .slice A2 m.length d] 34)).alloc (.cells #[.int .i64 0, .string ⟨#[]⟩, .slice none 0 0, .string ⟨#[]⟩, .slice none 0 0] 34) = wb at *
  have hb0 : Below wb.heap.size wb wb := Below.refl _ _
  have Z : Hid (w.heap.size + 1 < wb.heap.size) := K.out.now.1.2.1.lt
  have hne : Hid (w.heap.size ≠ w.heap.size + 1) := by show _ ≠ _; omega
  have TM := Lib.hid (copied_own (A := A2) (c := d) (S := X) hm Z.out (fun w' hb => (K.out w' hb).2.2))
  have TL := Lib.hid (copied_own (A := A) (c := c) (S := S) hl Z.out (fun w' hb => (K.out w' hb).2.1))
  have KB := Lib.hid (fun w' hb => ed_cells (K.out w' hb).1.1)
  go_region_held3 (fun w' => w'.cell? ⟨w.heap.size, 0, none⟩ = some (.int .i64 a) ∧ w'.cell? ⟨w.heap.size, 1, none⟩ = some (.string ⟨S.toArray⟩) ∧ w'.cell? ⟨w.heap.size, 2, none⟩ = some (.slice A l.length c) ∧ w'.cell? ⟨w.heap.size, 3, none⟩ = some (.string ⟨X.toArray⟩) ∧ w'.cell? ⟨w.heap.size, 4, none⟩ = some (.slice A2 m.length d))
    (first
      | (refine KB.out _ ?_; first | assumption | exact belowE_dr hb0)
      | (refine five_cells (K.out _ ?_).1.1 hne.out _ _ _ _ _; first | assumption | exact belowE_dr hb0))
    (first
      | (go_at_call_of 50 m; refine (TM.out _ ?_).mono ?_; (first | assumption | exact belowE_dr hb0); rintro e w4 ⟨A4, c4, rfl, rm, hbx, hby⟩; obtain ⟨⟨u0, u1, u2, u3, u4⟩, u5, u6, u7, u8, u9⟩ := ed_var (K.out _ hbx).1.2.1)
      | (go_at_call_of 50 l; refine (TL.out _ ?_).mono ?_; (first | assumption | exact belowE_dr hb0); rintro e w5 ⟨A5, c5, rfl, rl, hbx, hby⟩; obtain ⟨⟨u0, u1, u2, u3, u4⟩, u5, u6, u7, u8, u9⟩ := ed_var (K.out _ hbx).1.2.1))
  all_goals go_wp2
  all_goals
    have E := edit_end_new a (K.out _ hbx).1.2.2 (K.out _ hbx).1.2.1 (by omega) (A := A4) (A2 := A5) (l := m) (m := l) (s := ⟨X.toArray⟩) (x := ⟨S.toArray⟩) (by first | exact rm.out.now | exact (rm.out.step hby).now) (by first | exact rl.out.now | exact (rl.out.step hby).now) (.slice A4 m.length c4) (.slice A5 l.length c5)
    exact ret_edit1 rfl _ _ (w.heap.size + 1) _ _ _ _ _ rfl E.1 rfl ⟨A4, c4, A5, c5, rfl, E.2.1, E.2.2.1, E.2.2.2⟩

/-- runs copied, among others -/
theorem clone_in {wb : World} {g : Nat} {A : Option Addr} {c : Nat} {S : List UInt8} {l : List RunP} (hl : l.length ≤ 1000000) (hg : g < wb.heap.size) (hT : ∀ w', Below wb.heap.size wb w' → Txu w' A S l) :
    ∀ w', Below wb.heap.size wb w' → Calls Try.prog 51 #[.slice A l.length c] w' fun e w'' => ∃ A' c', e = .returned (.slice A' l.length c') ∧ Hid (Grow w'' (fun v => OwnR v (g + 1) A' c' l)) ∧ Below wb.heap.size wb w'' ∧ Below w'.heap.size w' w'' := by
  intro w' hb
  refine (ediClone_any A c l hl w' (hT w' hb).row).mono ?_
  rintro e w'' ⟨A', c', rfl, own, bb⟩
  have := hb.size
  exact ⟨A', c', rfl, grow_ownR (OwnR.less (show OwnR w'' w'.heap.size A' c' l from own) (by omega)), hb.trans (bb.mono hb.size), bb⟩
/-- behind two stores into the copy's variable -/
theorem copy_end {w wz : World} {A A2 A4 A5 : Option Addr} {c d c4 c5 : Nat} {a : Int} {S X : List UInt8} {l m : List RunP} {cs : Array Value} (h : Blk wz w.heap.size 34 #[.int .i64 a, .string ⟨S.toArray⟩, .slice A l.length c, .string ⟨X.toArray⟩, .slice A2 m.length d]) (hg : Blk wz (w.heap.size + 1) 34 cs) (hb : Below w.heap.size w wz)
    (r1 : OwnR wz (w.heap.size + 1 + 1) A5 c5 l) (r2 : OwnR wz (w.heap.size + 1 + 1) A4 c4 m) :
    Blk ((wz.setCell ⟨w.heap.size, 2, none⟩ (.slice A5 l.length c5)).setCell ⟨w.heap.size, 4, none⟩ (.slice A4 m.length c4)) w.heap.size 34 #[.int .i64 a, .string ⟨S.toArray⟩, .slice A5 l.length c5, .string ⟨X.toArray⟩, .slice A4 m.length c4] ∧
    Blk ((wz.setCell ⟨w.heap.size, 2, none⟩ (.slice A5 l.length c5)).setCell ⟨w.heap.size, 4, none⟩ (.slice A4 m.length c4)) (w.heap.size + 1) 34 cs ∧
    Below w.heap.size w ((wz.setCell ⟨w.heap.size, 2, none⟩ (.slice A5 l.length c5)).setCell ⟨w.heap.size, 4, none⟩ (.slice A4 m.length c4)) ∧
    OwnR ((wz.setCell ⟨w.heap.size, 2, none⟩ (.slice A5 l.length c5)).setCell ⟨w.heap.size, 4, none⟩ (.slice A4 m.length c4)) (w.heap.size + 1 + 1) A5 c5 l ∧
    OwnR ((wz.setCell ⟨w.heap.size, 2, none⟩ (.slice A5 l.length c5)).setCell ⟨w.heap.size, 4, none⟩ (.slice A4 m.length c4)) (w.heap.size + 1 + 1) A4 c4 m := by
  have hne : w.heap.size + 1 ≠ w.heap.size := by omega
  refine ⟨by have := (h.set_ 2 (.slice A5 l.length c5)).set_ 4 (.slice A4 m.length c4); simpa using this, (hg.far (p := ⟨w.heap.size, 2, none⟩) hne _).far (p := ⟨w.heap.size, 4, none⟩) hne _, (hb.setCell (Nat.le_refl _) _).setCell (Nat.le_refl _) _, ?_, ?_⟩
  · exact (r1.set (g := w.heap.size) (by omega) 2 _).set (g := w.heap.size) (by omega) 4 _
  · exact (r2.set (g := w.heap.size) (by omega) 2 _).set (g := w.heap.size) (by omega) 4 _
set_option maxHeartbeats 4000000 in
theorem hiCopied_any (A A2 : Option Addr) (c d : Nat) (a : Int) (S : List UInt8) (l : List RunP) (X : List UInt8) (m : List RunP) (hl : l.length ≤ 1000000) (hm : m.length ≤ 1000000) (w : World) (h : Txu w A S l) (hX : Txu w A2 X m) :
    Calls Try.prog 36 #[.agg #[.int .i64 a, .string ⟨S.toArray⟩, .slice A l.length c, .string ⟨X.toArray⟩, .slice A2 m.length d]] w (GivesE1N w a S l X m) := by
  have BX := Lib.hid (boxesE2 w 34 34 #[.int .i64 a, .string ⟨S.toArray⟩, .slice A l.length c, .string ⟨X.toArray⟩, .slice A2 m.length d] #[.int .i64 0, .string ⟨#[]⟩, .slice none 0 0, .string ⟨#[]⟩, .slice none 0 0])
  have K := Lib.hid (BX.out.and (((grow_txu h).and (grow_txu hX)).step BX.out.now.2.2))
  clear h hX BX
  go_enter Try.func36, Try.ntmps36
  go_wp2_with fail
  generalize (w.alloc (.cells #[.int .i64 a, .string ⟨S.toArray⟩, .slice A l.length c, .string ⟨X.toArray⟩, .slice A2 m.length d] 34)).alloc (.cells #[.int .i64 0, .string ⟨#[]⟩, .slice none 0 0, .string ⟨#[]⟩, .slice none 0 0] 34) = wb at *
  have hb0 : Below wb.heap.size wb wb := Below.refl _ _
  have Z : Hid (w.heap.size + 1 < wb.heap.size) := K.out.now.1.2.1.lt
  have TM := Lib.hid (clone_in (A := A2) (c := d) (S := X) hm Z.out (fun w' hb => (K.out w' hb).2.2))
  have TL := Lib.hid (clone_in (A := A) (c := c) (S := S) hl Z.out (fun w' hb => (K.out w' hb).2.1))
  obtain ⟨⟨y0, y1, y2, y3, y4⟩, y5, y6, y7, y8, y9⟩ := ed_var K.out.now.1.1
  go_region_with (first
    | (go_at_call_of 51 m; refine (TM.out _ ?_).mono ?_; (first | with_reducible assumption | with_reducible exact belowE_dr hb0); rintro e w4 ⟨A4, c4, rfl, rm, hbx, hby⟩; obtain ⟨⟨u0, u1, u2, u3, u4⟩, u5, u6, u7, u8, u9⟩ := ed_var (K.out _ hbx).1.1)
    | (go_at_call_of 51 l; refine (TL.out _ ?_).mono ?_; (first | with_reducible assumption | with_reducible exact belowE_dr hb0); rintro e w5 ⟨A5, c5, rfl, rl, hbx, hby⟩; obtain ⟨⟨u0, u1, u2, u3, u4⟩, u5, u6, u7, u8, u9⟩ := ed_var (K.out _ hbx).1.1))
  all_goals
    have E := copy_end (c4 := c4) (c5 := c5) (K.out _ hbx).1.1 (K.out _ hbx).1.2.1 (K.out _ hbx).1.2.2 (A5 := A5) (A4 := A4) (by first | exact rl.out.now | exact (rl.out.step hby).now) (by first | exact rm.out.now | exact (rm.out.step hby).now)
    have EH := Lib.hid E
    clear E u0 u1 u2 u3 u4 u5 u6 u7 u8 u9 y0 y1 y2 y3 y4 y5 y6 y7 y8 y9
    obtain ⟨y0, y1, y2, y3, y4⟩ := ed_cells EH.out.1
    obtain ⟨⟨u0, u1, u2, u3, u4⟩, u5, u6, u7, u8, u9⟩ := ed_var EH.out.2.1
    go_wp2
    have F := edit_end_new a EH.out.2.2.1 EH.out.2.1 (by omega) (A := A5) (A2 := A4) (l := l) (m := m) (s := ⟨S.toArray⟩) (x := ⟨X.toArray⟩) EH.out.2.2.2.1 EH.out.2.2.2.2 (.slice A5 l.length c5) (.slice A4 m.length c4)
    exact ret_edit1 rfl _ _ (w.heap.size + 1) _ _ _ _ _ rfl F.1 rfl ⟨A5, c5, A4, c4, rfl, F.2.1, F.2.2.1, F.2.2.2⟩
end Go.Proofs.Ytfeaffabminpfaa

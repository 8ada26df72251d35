/-
  The landed Undo: layer 8.
-/
import Derived.Test.YtfeaffabminpfaaHiPath
import Derived.Test.YtfeaffabminpfaaHiEdit
namespace Go.Proofs.Ytfeaffabminpfaa
open Go.RowKit

/-- an edit and no error; the present state is another one -/
def GivesU (w : World) (p b : Nat) (G : List StP) (dep last now' : Int) (a : Int) (S : List UInt8) (l : List RunP) (X : List UInt8) (m : List RunP) (e : Ending) (w' : World) : Prop :=
  ∃ A c A2 d, e = .returned (.tuple #[.agg #[.int .i64 a, .string ⟨S.toArray⟩, .slice A l.length c, .string ⟨X.toArray⟩, .slice A2 m.length d], .int .i64 0]) ∧ Hst w' p b G dep now' last ∧ OwnR w' w.heap.size A c l ∧ OwnR w' w.heap.size A2 d m ∧ Tch (fun k => k = p) w w'
/-- no edit, an error -/
def NoneE (w : World) (n : Int) (e : Ending) (w' : World) : Prop := e = .returned (.tuple #[.agg #[.int .i64 0, .string ⟨#[]⟩, .slice none 0 0, .string ⟨#[]⟩, .slice none 0 0], .int .i64 n]) ∧ Below w.heap.size w w'

theorem Grow.drew1 {wx : World} {F : World → Prop} (h : Grow wx F) : Grow wx.drew F := h.step (belowE_dr (Below.refl _ _))
theorem sv_cells {w : World} {g T : Nat} {a b c d e f : Value} (q : Blk w g T #[a, b, c, d, e, f]) : w.cell? ⟨g, 0, none⟩ = some a ∧ w.cell? ⟨g, 1, none⟩ = some b ∧ w.cell? ⟨g, 2, none⟩ = some c ∧ w.cell? ⟨g, 3, none⟩ = some d ∧ w.cell? ⟨g, 4, none⟩ = some e ∧ w.cell? ⟨g, 5, none⟩ = some f :=
  ⟨by have := q.cell 0; simpa using this, by have := q.cell 1; simpa using this, by have := q.cell 2; simpa using this, by have := q.cell 3; simpa using this, by have := q.cell 4; simpa using this, by have := q.cell 5; simpa using this⟩
theorem hst_box {w : World} {p b : Nat} {G : List StP} {dep now last : Int} (h : Hst w p b G dep now last) (cs : Array Value) (T : TypeId) :
    Grow (w.alloc (.cells cs T)) (fun w' => Blk w' w.heap.size T cs ∧ Hst w' p b G dep now last ∧ Below w.heap.size w w') :=
  (blk_box w).and (fun _ hb => ⟨h.fresh (((Below.refl _ w).alloc (Nat.le_refl _) _).trans (hb.mono (by simp))), ((Below.refl _ w).alloc (Nat.le_refl _) _).trans (hb.mono (by simp))⟩)

/-- only the history's variable has changed -/
theorem Hst.again {w w' : World} {p b : Nat} {G : List StP} {dep now last now' last' : Int} (h : Hst w p b G dep now last) (hc : Tch (fun k => k = p) w w') (hb : Blk w' p 67 #[.int .i64 dep, .int .i64 now', .int .i64 last', .map (some b)]) : Hst w' p b G dep now' last' :=
  ⟨hb, h.map.keep (hc.block b h.map.lt h.ne), fun s hs => ⟨(h.eds s hs).1.tch (hc.more fun _ e => Or.inl e), (h.eds s hs).2.tch (hc.more fun _ e => Or.inl e)⟩⟩
theorem Tch.five {P : Nat → Prop} {w wb : World} {k : Nat} (h : Tch P w wb) (hk : w.heap.size ≤ k) (v x y z u : Value) : Tch P w (((((wb.setCell ⟨k, 0, none⟩ v).setCell ⟨k, 1, none⟩ x).setCell ⟨k, 2, none⟩ y).setCell ⟨k, 3, none⟩ z).setCell ⟨k, 4, none⟩ u) := by
  have hb : ∀ i, (⟨k, i, none⟩ : Addr).block < w.heap.size → P (⟨k, i, none⟩ : Addr).block := fun i hi => by have : k < w.heap.size := hi; omega
  exact ((((h.setCell (hb 0) _).setCell (hb 1) _).setCell (hb 2) _).setCell (hb 3) _).setCell (hb 4) _
set_option maxRecDepth 100000 in
set_option maxHeartbeats 4000000 in
theorem hiUndo_none {w : World} {p b : Nat} {G : List StP} {dep now last : Int} (h : Hst w p b G dep now last) (hn : -1 ≤ now ∧ now ≤ 1000000) (hu : (findS G now).1.up = -1) :
    Calls Try.prog 12 #[.pointer (some ⟨p, 0, none⟩)] w (NoneE w 6) := by
  have K := Lib.hid (hst_box h #[.int .i64 0, .string ⟨#[]⟩, .slice none 0 0, .string ⟨#[]⟩, .slice none 0 0] 34)
  clear h
  obtain ⟨r, hr⟩ : ∃ r, findS G now = r := ⟨_, rfl⟩
  rw [hr] at hu
  have HF := Lib.hid hr
  clear hr
  obtain ⟨⟨n1, up, ⟨a, S, A1, l, c1, X, B1, m, d⟩⟩, is⟩ := r
  dsimp only at hu
  subst hu
  go_enter Try.func12, Try.ntmps12
  go_upto_region 3 with (go_at_call 31; refine (hiUsable_any K.out.now.2.1.blk).mono ?_; rintro e w' ⟨rfl, rfl⟩)
  generalize w.alloc (.cells #[.int .i64 0, .string ⟨#[]⟩, .slice none 0 0, .string ⟨#[]⟩, .slice none 0 0] 34) = wb at *
  obtain ⟨y0, y1, y2, y3⟩ := K.out.now.2.1.cells
  have hq1 := (K.out.drew1).now.2.1.map.at hn HF.out
  have hq2 := ((K.out.alloc (.cells #[.int .i64 0, .int .i64 0, .string ⟨#[]⟩, .slice none 0 0, .string ⟨#[]⟩, .slice none 0 0] 74)).drew1).now.2.1.map.at hn HF.out
  have hq3 := ((K.out.drew1).alloc (.cells #[.int .i64 0, .int .i64 0, .string ⟨#[]⟩, .slice none 0 0, .string ⟨#[]⟩, .slice none 0 0] 74)).now.2.1.map.at hn HF.out
  obtain ⟨x0, x1, x2, x3⟩ := ((K.out.alloc (.cells #[.int .i64 0, .int .i64 0, .string ⟨#[]⟩, .slice none 0 0, .string ⟨#[]⟩, .slice none 0 0] 74)).drew1).now.2.1.cells
  obtain ⟨z0, z1, z2, z3⟩ := ((K.out.drew1).alloc (.cells #[.int .i64 0, .int .i64 0, .string ⟨#[]⟩, .slice none 0 0, .string ⟨#[]⟩, .slice none 0 0] 74)).now.2.1.cells
  go_region
  all_goals
    have KC := Lib.hid ((grow_blk (Blk.new wb 74 #[.int .i64 (-1), .int .i64 a, .string ⟨S.toArray⟩, .slice A1 l.length c1, .string ⟨X.toArray⟩, .slice B1 m.length d])).and (K.out.alloc (.cells #[.int .i64 (-1), .int .i64 a, .string ⟨S.toArray⟩, .slice A1 l.length c1, .string ⟨X.toArray⟩, .slice B1 m.length d] 74))).drew1
    clear hq1 hq2 hq3 x0 x1 x2 x3 z0 z1 z2 z3 y0 y1 y2 y3
    generalize (wb.alloc (.cells #[.int .i64 (-1), .int .i64 a, .string ⟨S.toArray⟩, .slice A1 l.length c1, .string ⟨X.toArray⟩, .slice B1 m.length d] 74)).drew = wc at *
    obtain ⟨s0, s1, s2, s3, s4, s5⟩ := sv_cells KC.out.now.1
    obtain ⟨⟨u0, u1, u2, u3, u4⟩, u5, u6, u7, u8, u9⟩ := ed_var KC.out.now.2.1
    go_wp2
    have E := blk_five KC.out.now.2.1 (.int .i64 0) (.string ⟨#[]⟩) (.slice none 0 0) (.string ⟨#[]⟩) (.slice none 0 0)
    refine ret_edit rfl _ _ w.heap.size _ _ _ _ _ rfl E rfl ?_
    exact ⟨rfl, below_five KC.out.now.2.2.2 (Nat.le_refl _) _ _ _ _ _⟩

set_option maxRecDepth 100000 in
set_option maxHeartbeats 4000000 in
theorem hiUndo_some {w : World} {p b : Nat} {G : List StP} {dep now last : Int} (h : Hst w p b G dep now last) (hn : 0 ≤ now ∧ now ≤ 1000000) {n1 up a : Int} {S : List UInt8} {A1 : Option Addr} {l : List RunP} {c1 : Nat} {X : List UInt8} {B1 : Option Addr} {m : List RunP} {d : Nat}
    (hs : StP.mk n1 up ⟨a, S, A1, l, c1, X, B1, m, d⟩ ∈ G) (hf : findS G now = (StP.mk n1 up ⟨a, S, A1, l, c1, X, B1, m, d⟩, true)) (hu : 0 ≤ up) (hl : l.length ≤ 1000000) (hm : m.length ≤ 1000000) :
    Calls Try.prog 12 #[.pointer (some ⟨p, 0, none⟩)] w (GivesU w p b G dep last up a X m S l) := by
  have K := Lib.hid (hst_box h #[.int .i64 0, .string ⟨#[]⟩, .slice none 0 0, .string ⟨#[]⟩, .slice none 0 0] 34)
  have HP := Lib.hid h.blk.lt
  have HE := Lib.hid (fun (w' : World) (hb : Hst w' p b G dep up last) => hb.eds _ hs)
  have HH := Lib.hid h
  clear h hs
  have HF := Lib.hid hf
  have ht : (up == -1) = false := by rw [beq_eq_false_iff_ne]; omega
  clear hf
  go_enter Try.func12, Try.ntmps12
  go_upto_region 3 with (go_at_call 31; refine (hiUsable_any K.out.now.2.1.blk).mono ?_; rintro e w' ⟨rfl, rfl⟩)
  generalize w.alloc (.cells #[.int .i64 0, .string ⟨#[]⟩, .slice none 0 0, .string ⟨#[]⟩, .slice none 0 0] 34) = wb at *
  obtain ⟨y0, y1, y2, y3⟩ := K.out.now.2.1.cells
  have hq1 := (K.out.drew1).now.2.1.map.at ⟨by omega, hn.2⟩ HF.out
  have hq2 := ((K.out.alloc (.cells #[.int .i64 0, .int .i64 0, .string ⟨#[]⟩, .slice none 0 0, .string ⟨#[]⟩, .slice none 0 0] 74)).drew1).now.2.1.map.at ⟨by omega, hn.2⟩ HF.out
  have hq3 := ((K.out.drew1).alloc (.cells #[.int .i64 0, .int .i64 0, .string ⟨#[]⟩, .slice none 0 0, .string ⟨#[]⟩, .slice none 0 0] 74)).now.2.1.map.at ⟨by omega, hn.2⟩ HF.out
  obtain ⟨x0, x1, x2, x3⟩ := ((K.out.alloc (.cells #[.int .i64 0, .int .i64 0, .string ⟨#[]⟩, .slice none 0 0, .string ⟨#[]⟩, .slice none 0 0] 74)).drew1).now.2.1.cells
  obtain ⟨z0, z1, z2, z3⟩ := ((K.out.drew1).alloc (.cells #[.int .i64 0, .int .i64 0, .string ⟨#[]⟩, .slice none 0 0, .string ⟨#[]⟩, .slice none 0 0] 74)).now.2.1.cells
  go_region
  all_goals
    have KC := Lib.hid ((grow_blk (Blk.new wb 74 #[.int .i64 up, .int .i64 a, .string ⟨S.toArray⟩, .slice A1 l.length c1, .string ⟨X.toArray⟩, .slice B1 m.length d])).and (K.out.alloc (.cells #[.int .i64 up, .int .i64 a, .string ⟨S.toArray⟩, .slice A1 l.length c1, .string ⟨X.toArray⟩, .slice B1 m.length d] 74))).drew1
    clear hq1 hq2 hq3 x0 x1 x2 x3 z0 z1 z2 z3 y0 y1 y2 y3
    generalize (wb.alloc (.cells #[.int .i64 up, .int .i64 a, .string ⟨S.toArray⟩, .slice A1 l.length c1, .string ⟨X.toArray⟩, .slice B1 m.length d] 74)).drew = wc at *
    obtain ⟨s0, s1, s2, s3, s4, s5⟩ := sv_cells KC.out.now.1
    obtain ⟨⟨v0, v1, v2, v3⟩, v4, v5, v6, v7⟩ := KC.out.now.2.2.1.var
    go_upto_region 7 with fail
    have hlb : w.heap.size < wb.heap.size := K.out.now.1.lt
    have hp := HP.out
    have HD := Lib.hid (KC.out.now.2.2.1.setNow up)
    have SD := Lib.hid (KC.out.now.1.far (p := ⟨p, 1, none⟩) (show wb.heap.size ≠ p by omega) (.int .i64 up))
    have BD := Lib.hid (KC.out.now.2.1.far (p := ⟨p, 1, none⟩) (show w.heap.size ≠ p by omega) (.int .i64 up))
    have WD := Lib.hid ((Tch.fresh (P := fun k => k = p) KC.out.now.2.2.2).setCell (p := ⟨p, 1, none⟩) (fun _ => rfl) (.int .i64 up))
    clear s0 s1 s2 s3 s4 s5 v0 v1 v2 v3 v4 v5 v6 v7 KC K
    generalize wc.setCell ⟨p, 1, none⟩ (.int .i64 up) = wd at *
    obtain ⟨s0, s1, s2, s3, s4, s5⟩ := sv_cells SD.out
    go_wp2_with (go_at_call 32; refine (hiInvert_new A1 B1 c1 d a S l X m hl hm wd (HE.out _ HD.out).1.txu (HE.out _ HD.out).2.txu).mono ?_; rintro e w2 ⟨A5, c5, A6, d6, rfl, r1, r2, bb⟩; have R1 := Lib.hid r1; have R2 := Lib.hid r2; have BB := Lib.hid bb; clear r1 r2 bb s0 s1 s2 s3 s4 s5; obtain ⟨⟨u0, u1, u2, u3, u4⟩, u5, u6, u7, u8, u9⟩ := ed_var (BD.out.below BB.out BD.out.lt))
    have hlt : w.heap.size < wd.heap.size := BD.out.lt
    have E := blk_five (BD.out.below BB.out BD.out.lt) (.int .i64 a) (.string ⟨X.toArray⟩) (.slice A5 m.length c5) (.string ⟨S.toArray⟩) (.slice A6 l.length d6)
    have hT := (WD.out.trans (Tch.fresh BB.out)).five (Nat.le_refl _) (.int .i64 a) (.string ⟨X.toArray⟩) (.slice A5 m.length c5) (.string ⟨S.toArray⟩) (.slice A6 l.length d6)
    have hB := five_far (HD.out.fresh BB.out).blk (show p ≠ w.heap.size by omega) (.int .i64 a) (.string ⟨X.toArray⟩) (.slice A5 m.length c5) (.string ⟨S.toArray⟩) (.slice A6 l.length d6)
    refine ret_edit rfl _ _ w.heap.size _ _ _ _ _ rfl E rfl ?_
    exact ⟨A5, c5, A6, d6, rfl, HH.out.again hT hB, (R1.out.five hlt _ _ _ _ _).less (Nat.le_of_lt hlt), (R2.out.five hlt _ _ _ _ _).less (Nat.le_of_lt hlt), hT⟩
end Go.Proofs.Ytfeaffabminpfaa

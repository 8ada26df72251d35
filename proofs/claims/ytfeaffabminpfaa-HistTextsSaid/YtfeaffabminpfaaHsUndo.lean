/-
  Contracts of the document's own answers, layer 8: New, Undo.
-/
import Derived.Test.YtfeaffabminpfaaHsBelow
namespace Go.Proofs.Ytfeaffabminpfaa
open Go.RowKit

theorem results_cell2_tmp {fn : Func} {p q u : Tmp} {ty ty2 : TypeId} (h : fn.results = #[.cell p ty, .cell q ty2, .tmp u]) (tmps : Array Value) (P : Program) (w : World) :
    (results fn tmps).run P w =
      ((asAddr (tmps.getD p undef)).run P w).andThen fun a w₁ => ((loadVar ty a).run P w₁).andThen fun v w₂ => ((asAddr (tmps.getD q undef)).run P w₂).andThen fun b w₃ => ((loadVar ty2 b).run P w₃).andThen fun v2 w₄ => .ok (.tuple #[v, v2, tmps.getD u undef]) w₄ := by
  simp only [results, h]
  simp [Sem.run_bind, Result.andThen]
theorem results_cell_tmp2 {fn : Func} {p q u : Tmp} {ty : TypeId} (h : fn.results = #[.cell p ty, .tmp q, .tmp u]) (tmps : Array Value) (P : Program) (w : World) :
    (results fn tmps).run P w =
      ((asAddr (tmps.getD p undef)).run P w).andThen fun a w₁ => ((loadVar ty a).run P w₁).andThen fun v w₂ => .ok (.tuple #[v, tmps.getD q undef, tmps.getD u undef]) w₂ := by
  simp only [results, h]
  simp [Sem.run_bind, Result.andThen]
theorem hist_facts : (∃ fs, Try.prog.underlying 28 = some (.struct fs)) ∧ (Try.prog.info? 28).map (·.size) = some 4 := ⟨⟨_, Try.underlying28⟩, by kernel_rfl⟩
theorem ret_hist1 {fn : Func} {p : Tmp} (h : fn.results = #[.cell p 28]) (a : Act) (w : World) (g : Nat) (q r s t : Value) (hp : a.tmps.getD p undef = .pointer (some ⟨g, 0, none⟩)) (hg : Blk w g 28 #[q, r, s, t]) (hd : a.defers = [])
    {Q : Ending → World → Prop} (hQ : Q (.returned (.agg #[q, r, s, t])) w) : bodyPost Try.prog fn Q .ret a w := by
  obtain ⟨⟨fs, hu⟩, hi⟩ := hist_facts
  exact bodyPost_ret (results_cell_row h a.tmps w g 28 #[q, r, s, t] (0, 0) _ hp hg hu rfl hi) hd hQ
theorem ret_hist_edit {fn : Func} {p p2 u : Tmp} (h : fn.results = #[.cell p 28, .cell p2 34, .tmp u]) (a : Act) (w : World) (g g2 : Nat) (q r s t b c d e f : Value) (hp : a.tmps.getD p undef = .pointer (some ⟨g, 0, none⟩)) (hp2 : a.tmps.getD p2 undef = .pointer (some ⟨g2, 0, none⟩))
    (hg : Blk w g 28 #[q, r, s, t]) (hg2 : Blk w g2 34 #[b, c, d, e, f]) (hd : a.defers = [])
    {Q : Ending → World → Prop} (hQ : Q (.returned (.tuple #[.agg #[q, r, s, t], .agg #[b, c, d, e, f], a.tmps.getD u undef])) w) : bodyPost Try.prog fn Q .ret a w := by
  obtain ⟨⟨fs, hu⟩, hi⟩ := hist_facts
  obtain ⟨⟨fs2, hu2⟩, hi2⟩ := edit_facts
  refine bodyPost_ret (v := .tuple #[.agg #[q, r, s, t], .agg #[b, c, d, e, f], a.tmps.getD u undef]) ?_ hd hQ
  have hp' : a.tmps[p]?.getD undef = .pointer (some ⟨g, 0, none⟩) := by simpa using hp
  have hp2' : a.tmps[p2]?.getD undef = .pointer (some ⟨g2, 0, none⟩) := by simpa using hp2
  rw [results_cell2_tmp h]
  simp [hp', hp2', asAddr, run_loadVar_row w g 28 28 #[q, r, s, t] (0, 0) _ hg hu rfl hi, run_loadVar_row w g2 34 34 #[b, c, d, e, f] (0, 0) _ hg2 hu2 rfl hi2]
theorem ret_hist {fn : Func} {p q2 u : Tmp} (h : fn.results = #[.cell p 28, .tmp q2, .tmp u]) (a : Act) (w : World) (g : Nat) (q r s t : Value) (hp : a.tmps.getD p undef = .pointer (some ⟨g, 0, none⟩))
    (hg : Blk w g 28 #[q, r, s, t]) (hd : a.defers = [])
    {Q : Ending → World → Prop} (hQ : Q (.returned (.tuple #[.agg #[q, r, s, t], a.tmps.getD q2 undef, a.tmps.getD u undef])) w) : bodyPost Try.prog fn Q .ret a w := by
  obtain ⟨⟨fs, hu⟩, hi⟩ := hist_facts
  refine bodyPost_ret (v := .tuple #[.agg #[q, r, s, t], a.tmps.getD q2 undef, a.tmps.getD u undef]) ?_ hd hQ
  have hp' : a.tmps[p]?.getD undef = .pointer (some ⟨g, 0, none⟩) := by simpa using hp
  rw [results_cell_tmp2 h]
  simp [hp', asAddr, run_loadVar_row w g 28 28 #[q, r, s, t] (0, 0) _ hg hu rfl hi]
theorem hi_var {w : World} {g T : Nat} {a b c d : Value} (h : Blk w g T #[a, b, c, d]) : (w.cell? ⟨g, 0, none⟩ = some a ∧ w.cell? ⟨g, 1, none⟩ = some b ∧ w.cell? ⟨g, 2, none⟩ = some c ∧ w.cell? ⟨g, 3, none⟩ = some d) ∧ w.frozen? ⟨g, 0, none⟩ = false ∧ w.frozen? ⟨g, 1, none⟩ = false ∧ w.frozen? ⟨g, 2, none⟩ = false ∧ w.frozen? ⟨g, 3, none⟩ = false :=
  ⟨hi_cells h, h.frozen 0, h.frozen 1, h.frozen 2, h.frozen 3⟩
theorem hi_four {w : World} {g T : Nat} {a b c d : Value} (h : Blk w g T #[a, b, c, d]) (x y z u : Value) :
    Blk ((((w.setCell ⟨g, 0, none⟩ x).setCell ⟨g, 1, none⟩ y).setCell ⟨g, 2, none⟩ z).setCell ⟨g, 3, none⟩ u) g T #[x, y, z, u] := by
  have := (((h.set_ 0 x).set_ 1 y).set_ 2 z).set_ 3 u
  simpa using this

/-- a history alone -/
def firstS : StP := ⟨0, -1, zeroE⟩
set_option maxHeartbeats 1000000 in
theorem refHNew_any (depth : Int) (w : World) :
    Calls Try.prog 10 #[.int .i64 depth] w fun e w' => ∃ A c, e = .returned (.agg #[.slice A [firstS].length c, .int .i64 0, .int .i64 1, .int .i64 depth]) ∧ w'.ownsRow w.heap.size 76 7 (.slice A 1 c) 1 (flatS [firstS]) ∧ Below w.heap.size w w' := by
  go_enter Try.func10, Try.ntmps10
  go_wp2_with fail
  have BX := boxesE2 w 28 76 #[.slice (some ⟨w.heap.size + 1, 0, none⟩) 1 1, .int .i64 0, .int .i64 1, .int .i64 depth] #[.int .i64 0, .int .i64 (-1), .int .i64 0, .string ⟨#[]⟩, .slice none 0 0, .string ⟨#[]⟩, .slice none 0 0]
  generalize (w.alloc (.cells #[.slice (some ⟨w.heap.size + 1, 0, none⟩) 1 1, .int .i64 0, .int .i64 1, .int .i64 depth] 28)).alloc (.cells #[.int .i64 0, .int .i64 (-1), .int .i64 0, .string ⟨#[]⟩, .slice none 0 0, .string ⟨#[]⟩, .slice none 0 0] 76) = wz at *
  refine ret_hist1 rfl _ _ w.heap.size _ _ _ _ rfl BX.now.1 rfl ?_
  exact ⟨_, _, rfl, ⟨rfl, .inr ⟨w.heap.size + 1, 1, _, rfl, Nat.le_succ _, BX.now.2.1, Nat.le_refl _, by unfold maxLen; omega, rfl, rfl⟩⟩, BX.now.2.2⟩

/-- memory that a history's answer needs: the list, the edits in it -/
theorem boxesE1 (w : World) (T0 : TypeId) (c0 : Array Value) : Grow (w.alloc (.cells c0 T0)) (fun w' => Blk w' w.heap.size T0 c0 ∧ Below w.heap.size w w') := (blk_box w).and (grow_bel ((Below.refl _ w).alloc (Nat.le_refl _) _))
theorem growS {wx : World} {F : World → Prop} (K : Grow wx F) (a : Array Value) (T : TypeId) : Grow (wx.alloc (.cells a T)) (fun w' => Blk w' wx.heap.size T a ∧ F w') := (blk_box wx).and (K.alloc _)

theorem five_far {w : World} {g T : Nat} {cs : Array Value} (h : Blk w g T cs) {k : Nat} (hk : g ≠ k) (v x y z u : Value) :
    Blk (((((w.setCell ⟨k, 0, none⟩ v).setCell ⟨k, 1, none⟩ x).setCell ⟨k, 2, none⟩ y).setCell ⟨k, 3, none⟩ z).setCell ⟨k, 4, none⟩ u) g T cs :=
  ((((h.far (p := ⟨k, 0, none⟩) hk v).far (p := ⟨k, 1, none⟩) hk x).far (p := ⟨k, 2, none⟩) hk y).far (p := ⟨k, 3, none⟩) hk z).far (p := ⟨k, 4, none⟩) hk u
theorem four_far {w : World} {g T : Nat} {cs : Array Value} (h : Blk w g T cs) {k : Nat} (hk : g ≠ k) (v x y z : Value) :
    Blk ((((w.setCell ⟨k, 0, none⟩ v).setCell ⟨k, 1, none⟩ x).setCell ⟨k, 2, none⟩ y).setCell ⟨k, 3, none⟩ z) g T cs :=
  (((h.far (p := ⟨k, 0, none⟩) hk v).far (p := ⟨k, 1, none⟩) hk x).far (p := ⟨k, 2, none⟩) hk y).far (p := ⟨k, 3, none⟩) hk z
theorem below_four {w wb : World} {B k : Nat} (h : Below B w wb) (hk : B ≤ k) (v x y z : Value) : Below B w ((((wb.setCell ⟨k, 0, none⟩ v).setCell ⟨k, 1, none⟩ x).setCell ⟨k, 2, none⟩ y).setCell ⟨k, 3, none⟩ z) := by
  have hb : ∀ i, B ≤ (⟨k, i, none⟩ : Addr).block := fun _ => hk
  exact (((h.setCell (hb 0) _).setCell (hb 1) _).setCell (hb 2) _).setCell (hb 3) _
theorem below_five {w wb : World} {B k : Nat} (h : Below B w wb) (hk : B ≤ k) (v x y z u : Value) : Below B w (((((wb.setCell ⟨k, 0, none⟩ v).setCell ⟨k, 1, none⟩ x).setCell ⟨k, 2, none⟩ y).setCell ⟨k, 3, none⟩ z).setCell ⟨k, 4, none⟩ u) := by
  have hb : ∀ i, B ≤ (⟨k, i, none⟩ : Addr).block := fun _ => hk
  exact ((((h.setCell (hb 0) _).setCell (hb 1) _).setCell (hb 2) _).setCell (hb 3) _).setCell (hb 4) _

set_option maxHeartbeats 2000000 in
/-- at the first state there is nothing to undo -/
theorem refHUndo_none (A : Option Addr) (c B : Nat) (L : List StP) (now next depth : Int) (hL : L.length ≤ 1000) (w : World) (hB : B ≤ w.heap.size) (h : Row w B A (flatS L)) (hup : (findS L now).1.up < 0) :
    Calls Try.prog 13 #[.agg #[.slice A L.length c, .int .i64 now, .int .i64 next, .int .i64 depth]] w fun e w' => e = .returned (.tuple #[.agg #[.slice A L.length c, .int .i64 now, .int .i64 next, .int .i64 depth], .agg #[.int .i64 0, .string ⟨#[]⟩, .slice none 0 0, .string ⟨#[]⟩, .slice none 0 0], .int .i64 6]) ∧ Below w.heap.size w w' := by
  have BX := Lib.hid (boxesE3 w 28 28 34 #[.slice A L.length c, .int .i64 now, .int .i64 next, .int .i64 depth] #[.slice none 0 0, .int .i64 0, .int .i64 0, .int .i64 0] #[.int .i64 0, .string ⟨#[]⟩, .slice none 0 0, .string ⟨#[]⟩, .slice none 0 0])
  have K := Lib.hid (BX.out.and ((grow_rowB h hB).step BX.out.now.2.2.2))
  clear h BX
  obtain ⟨r, hr⟩ : ∃ r, findS L now = r := ⟨_, rfl⟩
  rw [hr] at hup
  have HF := Lib.hid hr
  clear hr
  obtain ⟨⟨n1, up, ⟨a, S, A1, l, c1, X, B1, m, d⟩⟩, is⟩ := r
  dsimp only at hup
  obtain ⟨y0, y1, y2, y3⟩ := hi_cells K.out.now.1.1
  go_enter Try.func13, Try.ntmps13
  go_upto_region 3 with (go_at_call 33; refine (refHFind_any A c B L now next depth now hL _ (by have := K.out.now.1.2.2.2.size; omega) K.out.now.2).mono ?_; rw [HF.out]; rintro e w1 ⟨rfl, bb⟩; replace K := Lib.hid (growS (K.out.step bb) #[.int .i64 n1, .int .i64 up, .int .i64 a, .string ⟨S.toArray⟩, .slice A1 l.length c1, .string ⟨X.toArray⟩, .slice B1 m.length d] 76); clear bb y0 y1 y2 y3; obtain ⟨u0, u1, u2, u3, u4, u5, u6⟩ := st_cells K.out.now.1)
  clear u0 u1 u2 u3 u4 u5 u6
  generalize w1.alloc (.cells #[.int .i64 n1, .int .i64 up, .int .i64 a, .string ⟨S.toArray⟩, .slice A1 l.length c1, .string ⟨X.toArray⟩, .slice B1 m.length d] 76) = wb at *
  obtain ⟨y0, y1, y2, y3⟩ := hi_cells K.out.now.2.1.1
  obtain ⟨⟨v0, v1, v2, v3⟩, v4, v5, v6, v7⟩ := hi_var K.out.now.2.1.2.1
  obtain ⟨⟨t0, t1, t2, t3, t4⟩, t5, t6, t7, t8, t9⟩ := ed_var K.out.now.2.1.2.2.1
  go_wp2_with fail
  have E1 := five_far (hi_four K.out.now.2.1.2.1 (.slice A L.length c) (.int .i64 now) (.int .i64 next) (.int .i64 depth)) (show w.heap.size + 1 ≠ w.heap.size + 1 + 1 by omega) (.int .i64 0) (.string ⟨#[]⟩) (.slice none 0 0) (.string ⟨#[]⟩) (.slice none 0 0)
  have E2 := blk_five (four_far K.out.now.2.1.2.2.1 (show w.heap.size + 1 + 1 ≠ w.heap.size + 1 by omega) (.slice A L.length c) (.int .i64 now) (.int .i64 next) (.int .i64 depth)) (.int .i64 0) (.string ⟨#[]⟩) (.slice none 0 0) (.string ⟨#[]⟩) (.slice none 0 0)
  refine ret_hist_edit rfl _ _ (w.heap.size + 1) (w.heap.size + 1 + 1) _ _ _ _ _ _ _ _ _ rfl rfl E1 E2 rfl ?_
  exact ⟨rfl, below_five (below_four K.out.now.2.1.2.2.2 (by omega) _ _ _ _) (by omega) _ _ _ _ _⟩

theorem refHInv_in {wb : World} {A A2 : Option Addr} {c d : Nat} {a : Int} {S : List UInt8} {l : List RunP} {X : List UInt8} {m : List RunP} (hT : ∀ w', Below wb.heap.size wb w' → Txu w' A S l ∧ Txu w' A2 X m) :
    ∀ w', Below wb.heap.size wb w' → Calls Try.prog 34 #[.agg #[.int .i64 a, .string ⟨S.toArray⟩, .slice A l.length c, .string ⟨X.toArray⟩, .slice A2 m.length d]] w' fun e w'' => ∃ B c' B2 d', e = .returned (.agg #[.int .i64 a, .string ⟨X.toArray⟩, .slice B m.length c', .string ⟨S.toArray⟩, .slice B2 l.length d']) ∧ Hid (Txu w'' B X m ∧ Txu w'' B2 S l) ∧ Below wb.heap.size wb w'' ∧ Below w'.heap.size w' w'' := by
  intro w' hb
  obtain ⟨t, x⟩ := hT w' hb
  refine (refEInvert_any A A2 c d a S l X m w' t x).mono ?_
  rintro e w'' ⟨B, c', B2, d', rfl, r1, r2, bb⟩
  exact ⟨B, c', B2, d', rfl, ⟨⟨x.hS, x.hf, x.hl, r1⟩, ⟨t.hS, t.hf, t.hl, r2⟩⟩, hb.trans (bb.mono hb.size), bb⟩
/-- runs do not lie in a block without labels -/
theorem rowN_ty {wx : World} {B g T : Nat} {A : Option Addr} {l : List RunP} {cs : Array Value} (h : Row wx B A (flatR l)) (hB : B ≤ wx.heap.size) (hg : Blk wx g T cs) (hcs : ∀ (i : Nat) (n : Int), cs[i]? ≠ some (.int .u64 n)) : RowN wx g A (flatR l) := by
  rcases l with _ | ⟨r, l⟩
  · exact .inl rfl
  · rcases h with h | ⟨ad, e, hb, hc⟩
    · exact .inl h
    · refine .inr ⟨ad, e, fun hbg => ?_, by omega, hc⟩
      have h0 : wx.cell? (ad.add 0) = some (.int .u64 (r.1 : Nat)) := hc 0 _ rfl
      have ha : ad.add 0 = ad := rfl
      have hh : wx.heap[ad.block]? = some (.cells cs T (0, 0)) := by rw [hbg]; exact hg
      rw [ha] at h0
      unfold World.cell? at h0
      rw [hh] at h0
      dsimp only at h0
      split at h0
      · cases h0
      · exact hcs _ _ h0
theorem no_lab4 (x : Value) (hx : ∀ n, x ≠ .int .u64 n) (a b c : Int) : ∀ (i : Nat) (n : Int), (#[x, .int .i64 a, .int .i64 b, .int .i64 c] : Array Value)[i]? ≠ some (.int .u64 n) := by
  intro i n h
  match i, h with
  | 0, h => exact hx n (by simpa using h)
  | 1, h => simp at h
  | 2, h => simp at h
  | 3, h => simp at h
  | i + 4, h => simp at h
theorem no_lab5 (a : Int) (s t : ByteArray) (A B : Option Addr) (n c m d : Nat) : ∀ (i : Nat) (k : Int), (#[.int .i64 a, .string s, .slice A n c, .string t, .slice B m d] : Array Value)[i]? ≠ some (.int .u64 k) := by
  intro i n h
  match i, h with
  | 0, h => simp at h
  | 1, h => simp at h
  | 2, h => simp at h
  | 3, h => simp at h
  | 4, h => simp at h
  | i + 5, h => simp at h
/-- runs that are read through stores into a history's variable and an edit's -/
theorem txu_nine {wx : World} {A : Option Addr} {S : List UInt8} {l : List RunP} {g k : Nat} {x : Value} {a b c : Int} {e : Int} {s t : ByteArray} {E F : Option Addr} {n1 c1 n2 c2 : Nat} (h : Txu wx A S l) (hg : Blk wx g 28 #[x, .int .i64 a, .int .i64 b, .int .i64 c]) (hx : ∀ n, x ≠ .int .u64 n) (hk : Blk wx k 34 #[.int .i64 e, .string s, .slice E n1 c1, .string t, .slice F n2 c2]) (hne : k ≠ g) (v0 v1 v2 v3 u0 u1 u2 u3 u4 : Value) :
    Txu (((((((((wx.setCell ⟨g, 0, none⟩ v0).setCell ⟨g, 1, none⟩ v1).setCell ⟨g, 2, none⟩ v2).setCell ⟨g, 3, none⟩ v3).setCell ⟨k, 0, none⟩ u0).setCell ⟨k, 1, none⟩ u1).setCell ⟨k, 2, none⟩ u2).setCell ⟨k, 3, none⟩ u3).setCell ⟨k, 4, none⟩ u4) A S l := by
  have r1 := rowN_ty h.row (Nat.le_refl _) hg (no_lab4 x hx a b c)
  have r2 := (((r1.set 0 v0).set 1 v1).set 2 v2).set 3 v3
  have r3 := rowN_ty r2.row (Nat.le_refl _) (four_far hk hne v0 v1 v2 v3) (no_lab5 e s t E F n1 c1 n2 c2)
  exact ⟨h.hS, h.hf, h.hl, (((((r3.set 0 u0).set 1 u1).set 2 u2).set 3 u3).set 4 u4).row⟩

set_option maxHeartbeats 4000000 in
theorem refHUndo_some (A : Option Addr) (c B : Nat) (L : List StP) (now next depth : Int) (hL : L.length ≤ 1000) (w : World) (hB : B ≤ w.heap.size) (h : Row w B A (flatS L)) (n1 up a : Int) (S : List UInt8) (A1 : Option Addr) (l : List RunP) (c1 : Nat) (X : List UInt8) (B1 : Option Addr) (m : List RunP) (d : Nat) (is : Bool)
    (hf : findS L now = (⟨n1, up, ⟨a, S, A1, l, c1, X, B1, m, d⟩⟩, is)) (hup : ¬ up < 0) (hS : Txu w A1 S l) (hX : Txu w B1 X m) :
    Calls Try.prog 13 #[.agg #[.slice A L.length c, .int .i64 now, .int .i64 next, .int .i64 depth]] w fun e w' => ∃ E1 k1 E2 k2, e = .returned (.tuple #[.agg #[.slice A L.length c, .int .i64 up, .int .i64 next, .int .i64 depth], .agg #[.int .i64 a, .string ⟨X.toArray⟩, .slice E1 m.length k1, .string ⟨S.toArray⟩, .slice E2 l.length k2], .int .i64 0]) ∧ Txu w' E1 X m ∧ Txu w' E2 S l ∧ Below w.heap.size w w' := by
  have BX := Lib.hid (boxesE3 w 28 28 34 #[.slice A L.length c, .int .i64 now, .int .i64 next, .int .i64 depth] #[.slice none 0 0, .int .i64 0, .int .i64 0, .int .i64 0] #[.int .i64 0, .string ⟨#[]⟩, .slice none 0 0, .string ⟨#[]⟩, .slice none 0 0])
  have K := Lib.hid (BX.out.and (((grow_rowB h hB).and ((grow_txt hS).and (grow_txt hX))).step BX.out.now.2.2.2))
  clear h BX hS hX
  have HF := Lib.hid hf
  clear hf
  obtain ⟨y0, y1, y2, y3⟩ := hi_cells K.out.now.1.1
  go_enter Try.func13, Try.ntmps13
  go_upto_region 4 with (go_at_call 33; refine (refHFind_any A c B L now next depth now hL _ (by have := K.out.now.1.2.2.2.size; omega) K.out.now.2.1).mono ?_; rw [HF.out]; rintro e w1 ⟨rfl, bb⟩; have Z := K.out.now.1.2.2.1.lt; have Z1 := bb.size; replace K := Lib.hid (growS (K.out.step bb) #[.int .i64 n1, .int .i64 up, .int .i64 a, .string ⟨S.toArray⟩, .slice A1 l.length c1, .string ⟨X.toArray⟩, .slice B1 m.length d] 76); clear bb y0 y1 y2 y3; obtain ⟨u0, u1, u2, u3, u4, u5, u6⟩ := st_cells K.out.now.1)
  clear u0 u1 u2 u3 u4 u5 u6
  generalize w1.alloc (.cells #[.int .i64 n1, .int .i64 up, .int .i64 a, .string ⟨S.toArray⟩, .slice A1 l.length c1, .string ⟨X.toArray⟩, .slice B1 m.length d] 76) = wa at *
  generalize w1.heap.size = g5 at *
  have hne : g5 ≠ w.heap.size := by omega
  have KZ : Hid (Grow (wa.setCell ⟨w.heap.size, 1, none⟩ (.int .i64 up)) (fun w' => Blk w' g5 76 #[.int .i64 n1, .int .i64 up, .int .i64 a, .string ⟨S.toArray⟩, .slice A1 l.length c1, .string ⟨X.toArray⟩, .slice B1 m.length d] ∧ Blk w' w.heap.size 28 #[.slice A L.length c, .int .i64 up, .int .i64 next, .int .i64 depth] ∧ Blk w' (w.heap.size + 1) 28 #[.slice none 0 0, .int .i64 0, .int .i64 0, .int .i64 0] ∧ Blk w' (w.heap.size + 1 + 1) 34 #[.int .i64 0, .string ⟨#[]⟩, .slice none 0 0, .string ⟨#[]⟩, .slice none 0 0] ∧ Below w.heap.size w w' ∧ Txu w' A1 S l ∧ Txu w' B1 X m)) := by
    have k := K.out.now
    have hs : ∀ {A3 : Option Addr} {S3 : List UInt8} {l3 : List RunP}, Txt wa w.heap.size A3 S3 l3 → Txu (wa.setCell ⟨w.heap.size, 1, none⟩ (.int .i64 up)) A3 S3 l3 := fun t => ⟨t.hS, t.hf, t.hl, ((rowN_row t.row k.2.1.2.2.2.size (Nat.le_refl _)).set 1 _).row⟩
    refine (grow_blk (k.1.far (p := ⟨w.heap.size, 1, none⟩) hne _)).and ((grow_blk (by have := k.2.1.1.set_ 1 (.int .i64 up); simpa using this)).and ((grow_blk (k.2.1.2.1.far (p := ⟨w.heap.size, 1, none⟩) (show w.heap.size + 1 ≠ w.heap.size by omega) _)).and ((grow_blk (k.2.1.2.2.1.far (p := ⟨w.heap.size, 1, none⟩) (show w.heap.size + 1 + 1 ≠ w.heap.size by omega) _)).and ((grow_bel (k.2.1.2.2.2.setCell (Nat.le_refl _) _)).and ((grow_txu (hs k.2.2.2.1)).and (grow_txu (hs k.2.2.2.2)))))))
  obtain ⟨u0, u1, u2, u3, u4, u5, u6⟩ := st_cells K.out.now.1
  obtain ⟨⟨y0, y1, y2, y3⟩, y4, y5, y6, y7⟩ := hi_var K.out.now.2.1.1
  go_upto_region 5 with fail
  clear y0 y1 y2 y3 y4 y5 y6 y7 u0 u1 u2 u3 u4 u5 u6 K
  generalize wa.setCell ⟨w.heap.size, 1, none⟩ (.int .i64 up) = wb at *
  have hb0 : Below wb.heap.size wb wb := Below.refl _ _
  have TI := Lib.hid (refHInv_in (wb := wb) (a := a) (A := A1) (A2 := B1) (c := c1) (d := d) (S := S) (l := l) (X := X) (m := m) (fun w' hb => ⟨(KZ.out w' hb).2.2.2.2.2.1, (KZ.out w' hb).2.2.2.2.2.2⟩))
  have KB := Lib.hid (fun w' hb => And.intro (hi_cells (KZ.out w' hb).2.1) (st_cells (KZ.out w' hb).1))
  have hz5 : g5 ≠ w.heap.size + 1 := by omega
  have hz6 : g5 ≠ w.heap.size + 1 + 1 := by omega
  have hz7 : w.heap.size ≠ w.heap.size + 1 := by omega
  have hz8 : w.heap.size ≠ w.heap.size + 1 + 1 := by omega
  have hz9 : w.heap.size + 1 + 1 ≠ w.heap.size + 1 := by omega
  have hz10 : w.heap.size + 1 ≠ w.heap.size + 1 + 1 := by omega
  clear hne Z Z1
  go_region_held3 (fun w' => (w'.cell? ⟨w.heap.size, 0, none⟩ = some (.slice A L.length c) ∧ w'.cell? ⟨w.heap.size, 1, none⟩ = some (.int .i64 up) ∧ w'.cell? ⟨w.heap.size, 2, none⟩ = some (.int .i64 next) ∧ w'.cell? ⟨w.heap.size, 3, none⟩ = some (.int .i64 depth)) ∧
      w'.cell? ⟨g5, 0, none⟩ = some (.int .i64 n1) ∧ w'.cell? ⟨g5, 1, none⟩ = some (.int .i64 up) ∧ w'.cell? ⟨g5, 2, none⟩ = some (.int .i64 a) ∧ w'.cell? ⟨g5, 3, none⟩ = some (.string ⟨S.toArray⟩) ∧ w'.cell? ⟨g5, 4, none⟩ = some (.slice A1 l.length c1) ∧ w'.cell? ⟨g5, 5, none⟩ = some (.string ⟨X.toArray⟩) ∧ w'.cell? ⟨g5, 6, none⟩ = some (.slice B1 m.length d))
    (first
      | (refine KB.out _ ?_; first | with_reducible assumption | with_reducible exact belowE_dr hb0)
      | with_reducible exact And.intro (hi_cells (four_far HG1.out hz7 _ _ _ _)) (st_cells (four_far HG2.out hz5 _ _ _ _))
      | with_reducible exact And.intro (hi_cells (five_far HG1.out hz8 _ _ _ _ _)) (st_cells (five_far HG2.out hz6 _ _ _ _ _))
      | with_reducible exact And.intro (hi_cells (five_far (four_far HG1.out hz7 _ _ _ _) hz8 _ _ _ _ _)) (st_cells (five_far (four_far HG2.out hz5 _ _ _ _) hz6 _ _ _ _ _))
      | with_reducible exact And.intro (hi_cells (four_far (five_far HG1.out hz8 _ _ _ _ _) hz7 _ _ _ _)) (st_cells (four_far (five_far HG2.out hz6 _ _ _ _ _) hz5 _ _ _ _)))
    (first
      | (go_at_call 34; refine (TI.out _ ?_).mono ?_; (first | assumption | exact belowE_dr hb0); rintro e w5 ⟨E1, k1, E2, k2, rfl, rr, hbx, hby⟩; have HG1 := Lib.hid (KZ.out _ hbx).2.1; have HG2 := Lib.hid (KZ.out _ hbx).1; obtain ⟨⟨v0, v1, v2, v3⟩, v4, v5, v6, v7⟩ := hi_var (KZ.out _ hbx).2.2.1; obtain ⟨⟨t0, t1, t2, t3, t4⟩, t5, t6, t7, t8, t9⟩ := ed_var (KZ.out _ hbx).2.2.2.1))
  all_goals go_wp2
  all_goals
    have GH := Lib.hid (KZ.out _ hbx).2.2.1
    have GE := Lib.hid (KZ.out _ hbx).2.2.2.1
    have GW := Lib.hid (KZ.out _ hbx).2.2.2.2.1
    have H1 := five_far (hi_four GH.out (.slice A L.length c) (.int .i64 up) (.int .i64 next) (.int .i64 depth)) hz10 (.int .i64 a) (.string ⟨X.toArray⟩) (.slice E1 m.length k1) (.string ⟨S.toArray⟩) (.slice E2 l.length k2)
    have H2 := blk_five (four_far GE.out hz9 (.slice A L.length c) (.int .i64 up) (.int .i64 next) (.int .i64 depth)) (.int .i64 a) (.string ⟨X.toArray⟩) (.slice E1 m.length k1) (.string ⟨S.toArray⟩) (.slice E2 l.length k2)
    refine ret_hist_edit rfl _ _ (w.heap.size + 1) (w.heap.size + 1 + 1) _ _ _ _ _ _ _ _ _ rfl rfl H1 H2 rfl ?_
    exact ⟨E1, k1, E2, k2, rfl, txu_nine rr.out.1 GH.out (fun n h => by cases h) GE.out hz9 _ _ _ _ _ _ _ _ _, txu_nine rr.out.2 GH.out (fun n h => by cases h) GE.out hz9 _ _ _ _ _ _ _ _ _, below_five (below_four GW.out (by omega) _ _ _ _) (by omega) _ _ _ _ _⟩
end Go.Proofs.Ytfeaffabminpfaa

/-
  Merged: OpMade, OpPile, OpTime, OpTurn, OpRange, OpSpan, OpOut.
-/
import Derived.Test.YtgpmfkedcoiopaaGreatDoorM07e
import Derived.Test.YtgpmfkedcoiopaaGreatDoorTextsOpen
import Derived.Test.YtgpmfkedcoiopaaGreatDoorSeesMath
import Derived.Deep.RegionHeld3
import Derived.Deep.DeepCutAuto
import Derived.Test.YtgpmfkedcoiopaaGreatDoorM03o
import Derived.Test.YtgpmfkedcoiopaaGreatDoorHsApply
import Derived.Test.YtgpmfkedcoiopaaGreatDoorM12p
import Derived.BigQuiet
/-
  The document's made: new bytes: layer 14.
-/
namespace Go.Proofs.YtgpmfkedcoiopaaGreatDoor
open Go.RowKit

end Go.Proofs.YtgpmfkedcoiopaaGreatDoor

/-
  The document's piled: texts, one behind the other, as long as they are not too long: layer 14.
-/
namespace Go.Proofs.YtgpmfkedcoiopaaGreatDoor
open Go.RowKit
set_option maxRecDepth 100000

/-- a text as a plain value -/
abbrev TP := List UInt8 × List RunP
def TextP.tp (r : TextP) : TP := (r.S, r.l)
def bytesC (L : List TP) : List UInt8 := L.flatMap (·.1)
def labsC (L : List TP) : List Nat := L.flatMap fun t => bytesOf t.2
def goodC (L : List TP) : Bool := L.all fun t => goodT t.1 t.2
def pileM (L : List TP) : Option TP := if goodC L = true ∧ (bytesC L).length ≤ 4096 then some (bytesC L, pack (labsC L)) else none
theorem bytesC_app (L M : List TP) : bytesC (L ++ M) = bytesC L ++ bytesC M := by simp [bytesC]
theorem labsC_app (L M : List TP) : labsC (L ++ M) = labsC L ++ labsC M := by simp [labsC]
theorem goodC_app (L M : List TP) : goodC (L ++ M) = (goodC L && goodC M) := by simp [goodC]
theorem labsC_len (L : List TP) (h : goodC L = true) : (labsC L).length = (bytesC L).length := by
  induction L with
  | nil => rfl
  | cons t L ih =>
    have h' : goodT t.1 t.2 = true ∧ goodC L = true := by simpa [goodC] using h
    have := (goodT_size h'.1).2.2
    have := ih h'.2
    simp only [labsC, bytesC, List.flatMap_cons, List.length_append] at *
    omega
def GivesTB (w : World) (r : Option TP) (e : Ending) (w' : World) : Prop :=
  ∃ A c, e = .returned (.tuple #[.agg #[.string ⟨(r.getD ([], [])).1.toArray⟩, .slice A (r.getD ([], [])).2.length c], .bool r.isSome]) ∧ w'.ownsRow w.heap.size 77 2 (.slice A (r.getD ([], [])).2.length c) (r.getD ([], [])).2.length (flatR (r.getD ([], [])).2) ∧ Below w.heap.size w w'
/-- what is kept while texts are piled -/
structure PileK (w wr : World) (A : Option Addr) (c : Nat) (U : List UInt8) (q : List RunP) : Prop where
  blk : Blk wr (w.heap.size + 1) 32 #[.string ⟨U.toArray⟩, .slice A q.length c]
  res : Blk wr w.heap.size 32 #[.string ⟨#[]⟩, .slice none 0 0]
  own : wr.ownsRow (w.heap.size + 2) 77 2 (.slice A q.length c) q.length (flatR q)
  bel : Below w.heap.size w wr
  siz : w.heap.size + 2 ≤ wr.heap.size
theorem PileK.step {w wr w' : World} {A : Option Addr} {c : Nat} {U : List UInt8} {q : List RunP} (h : PileK w wr A c U q) (hb : Below wr.heap.size wr w') : PileK w w' A c U q :=
  ⟨h.blk.below hb h.blk.lt, h.res.below hb h.res.lt, own_keep h.own hb (Nat.le_refl _), h.bel.trans (hb.mono h.bel.size), Nat.le_trans h.siz hb.size⟩
theorem PileK.store {w wr : World} {A A' : Option Addr} {c c' b : Nat} {U V : List UInt8} {q r : List RunP} (h : PileK w wr A c U q) (hb : w.heap.size + 2 ≤ b) (own : wr.ownsRow b 77 2 (.slice A' r.length c') r.length (flatR r)) :
    PileK w ((wr.setCell ⟨w.heap.size + 1, 0, none⟩ (.string ⟨V.toArray⟩)).setCell ⟨w.heap.size + 1, 1, none⟩ (.slice A' r.length c')) A' c' V r where
  blk := blk_two h.blk _ _
  res := (h.res.far (p := ⟨w.heap.size + 1, 0, none⟩) (by simp) _).far (p := ⟨w.heap.size + 1, 1, none⟩) (by simp) _
  own := own_base (own_away (own_away own (p := ⟨w.heap.size + 1, 0, none⟩) (by show w.heap.size + 1 < b; omega) _) (p := ⟨w.heap.size + 1, 1, none⟩) (by show w.heap.size + 1 < b; omega) _) hb
  bel := (h.bel.setCell (p := ⟨w.heap.size + 1, 0, none⟩) (by show w.heap.size ≤ w.heap.size + 1; omega) _).setCell (p := ⟨w.heap.size + 1, 1, none⟩) (by show w.heap.size ≤ w.heap.size + 1; omega) _
  siz := by have := h.siz; simpa using this
end Go.Proofs.YtgpmfkedcoiopaaGreatDoor

/-
  The document's times: some texts, n times: layer 14.
-/
namespace Go.Proofs.YtgpmfkedcoiopaaGreatDoor
open Go.RowKit
set_option maxRecDepth 100000

theorem flatX_snocO (gs : List TextP) (t : TextP) : flatX (gs ++ [t]) = flatX gs ++ [.string ⟨t.S.toArray⟩, .slice t.A t.l.length t.c] := by simp [flatX]
def timesM (L : List TP) (n : Nat) : Option TP :=
  match pileM L with
  | none => none
  | some x => if x.1.length * n ≤ 4096 then pileM (List.replicate n x) else none
theorem pile_good {L : List TP} {S : List UInt8} {l : List RunP} (h : pileM L = some (S, l)) : goodT S l = true := by
  unfold pileM at h
  split at h
  · next hc =>
    injection h with h
    injection h with h1 h2
    subst h1 h2
    exact (goodT_iff _ _).2 ⟨goodB_pack (by rw [labsC_len _ hc.1]; exact hc.2), by rw [bytesOf_pack, labsC_len _ hc.1]⟩
  · cases h
theorem pile_fits {L : List TP} {S : List UInt8} {l : List RunP} (hf : ∀ x ∈ labsC L, x < 18446744073709551616) (h : pileM L = some (S, l)) : Fits l ∧ l.length ≤ maxLen := by
  unfold pileM at h
  split at h
  · next hc =>
    injection h with h
    injection h with h1 h2
    subst h1 h2
    have hl : (labsC L).length ≤ 4096 := by rw [labsC_len _ hc.1]; exact hc.2
    exact ⟨fits_pack hf hl, pack_small hl⟩
  · cases h
end Go.Proofs.YtgpmfkedcoiopaaGreatDoor

/-
  The document's turned: the edit by which a text comes in place of some bytes, and the view behind: layer 14.
-/
namespace Go.Proofs.YtgpmfkedcoiopaaGreatDoor
open Go.RowKit
set_option maxRecDepth 100000

/-- no label among some cells -/
def NoLab (cs : Array Value) : Prop := ∀ v ∈ cs.toList, ∀ n : Int, v ≠ .int .u64 n
theorem rowN_noLab {wx : World} {B g T : Nat} {A : Option Addr} {l : List RunP} {cs : Array Value} (h : Row wx B A (flatR l)) (hB : B ≤ wx.heap.size) (hg : Blk wx g T cs) (hcs : NoLab cs) : RowN wx g A (flatR l) := by
  rcases l with _ | ⟨r, l⟩
  · exact .inl rfl
  · rcases h with h | ⟨ad, e, hb, hc⟩
    · exact .inl h
    · refine .inr ⟨ad, e, fun hbg => ?_, by omega, hc⟩
      have h0 : wx.cell? (ad.add 0) = some (.int .u64 (r.1 : Nat)) := hc 0 _ rfl
      have ha : ad.add 0 = ad := rfl
      have hh : wx.heap[ad.block]? = some (.cells cs T (0, 0)) := by rw [hbg]; exact hg
      rw [ha] at h0
      unfold World.cell? at h0
      rw [hh] at h0
      dsimp only at h0
      split at h0
      · cases h0
      · obtain ⟨h1, h2⟩ := Array.getElem?_eq_some_iff.1 h0
        exact hcs _ (by rw [Array.mem_toList_iff, Array.mem_iff_getElem]; exact ⟨_, h1, h2⟩) _ rfl
theorem noLab_edit (a : Int) (s t : ByteArray) (A B : Option Addr) (i j k m : Nat) : NoLab #[.int .i64 a, .string s, .slice A i j, .string t, .slice B k m] := by
  intro v hv n
  simp at hv
  rcases hv with rfl | rfl | rfl | rfl | rfl <;> simp
theorem cell_tmp2O {fn : Func} {p q u : Tmp} {ty : TypeId} (h : fn.results = #[.cell p ty, .tmp q, .tmp u]) (tmps : Array Value) (P : Program) (w : World) :
    (results fn tmps).run P w =
      ((asAddr (tmps.getD p undef)).run P w).andThen fun a w₁ => ((loadVar ty a).run P w₁).andThen fun v w₂ => .ok (.tuple #[v, tmps.getD q undef, tmps.getD u undef]) w₂ := by
  simp only [results, h]
  simp [Sem.run_bind, Result.andThen]
theorem ret_edit3 {fn : Func} {p q2 u : Tmp} (h : fn.results = #[.cell p 41, .tmp q2, .tmp u]) (a : Act) (w : World) (g : Nat) (q r s t v : Value) (hp : a.tmps.getD p undef = .pointer (some ⟨g, 0, none⟩)) (hg : Blk w g 41 #[q, r, s, t, v]) (hd : a.defers = [])
    {Q : Ending → World → Prop} (hQ : Q (.returned (.tuple #[.agg #[q, r, s, t, v], a.tmps.getD q2 undef, a.tmps.getD u undef])) w) : bodyPost Tryz.prog fn Q .ret a w := by
  obtain ⟨⟨fs, hu⟩, hi⟩ := edit_facts
  refine bodyPost_ret (v := .tuple #[.agg #[q, r, s, t, v], a.tmps.getD q2 undef, a.tmps.getD u undef]) ?_ hd hQ
  have hp' : a.tmps[p]?.getD undef = .pointer (some ⟨g, 0, none⟩) := by simpa using hp
  rw [cell_tmp2O h]
  simp [hp', asAddr, run_loadVar_row w g 41 41 #[q, r, s, t, v] (0, 0) _ hg hu rfl hi]
def edit0 : EdP := ⟨0, [], [], [], []⟩
/-- an edit, the view behind it, or the error -/
def turnedM (S : List UInt8) (l : List RunP) (y : Nat) (f e : Int) (X : List UInt8) (m : List RunP) (fits : Bool) : (EdP × List UInt8) × Nat :=
  if fits = false then ((edit0, []), 3)
  else if (ofE S l f e X m).2 = 0 then (((ofE S l f e X m).1, (viewOf (spliceT S l f e X m).1.1 (spliceT S l f e X m).1.2 y).1), 0)
  else ((edit0, []), (ofE S l f e X m).2)
def GivesEV (w : World) (r : (EdP × List UInt8) × Nat) (e : Ending) (w' : World) : Prop :=
  ∃ A c A2 d, e = .returned (.tuple #[.agg #[.int .i64 r.1.1.a, .string ⟨r.1.1.S.toArray⟩, .slice A r.1.1.l.length c, .string ⟨r.1.1.X.toArray⟩, .slice A2 r.1.1.m.length d], .string ⟨r.1.2.toArray⟩, .int .i64 (r.2 : Nat)]) ∧ Row w' w'.heap.size A (flatR r.1.1.l) ∧ Row w' w'.heap.size A2 (flatR r.1.1.m) ∧ Below w.heap.size w w'
end Go.Proofs.YtgpmfkedcoiopaaGreatDoor

/-
  The document's right, bytes, lines: ranges: layer 14.
-/
namespace Go.Proofs.YtgpmfkedcoiopaaGreatDoor
open Go.RowKit
set_option maxRecDepth 100000

def rightM (V : List UInt8) (f t : Int) (b : Bool) : Bool := if b = true then decide (0 ≤ f ∧ f ≤ t ∧ t < (countL V : Int)) else decide (0 ≤ f ∧ f ≤ t ∧ t ≤ (V.length : Int))
def bytesM (V : List UInt8) (f t : Int) (b : Bool) : Int × Int := if b = true then (((boundsL V f).1.1 : Nat), ((boundsL V t).1.2 : Nat)) else (f, t)
def linesP (V : List UInt8) (f t : Int) (b : Bool) : Int × Int := if b = true then (f, t) else ((ofL V f : Nat), (ofL V (max f (t - 1)) : Nat))
def rngC (w' : World) (g : Nat) (f t : Int) (b : Bool) : Prop := w'.cell? ⟨g, 0, none⟩ = some (.int .i64 f) ∧ w'.cell? ⟨g, 1, none⟩ = some (.int .i64 t) ∧ w'.cell? ⟨g, 2, none⟩ = some (.bool b)
theorem use_factO {p G : Prop} (h : p) (k : p → G) : G := k h
end Go.Proofs.YtgpmfkedcoiopaaGreatDoor

/-
  The document's Span: layer 14.
-/
namespace Go.Proofs.YtgpmfkedcoiopaaGreatDoor
open Go.RowKit
set_option maxRecDepth 100000

theorem range_facts : (∃ fs, Tryz.prog.underlying 27 = some (.struct fs)) ∧ (Tryz.prog.info? 27).map (·.size) = some 3 := ⟨⟨_, Tryz.underlying27⟩, by kernel_rfl⟩
theorem ret_range1 {fn : Func} {p : Tmp} (h : fn.results = #[.cell p 27]) (a : Act) (w : World) (g : Nat) (x y z : Value) (hp : a.tmps.getD p undef = .pointer (some ⟨g, 0, none⟩)) (hg : Blk w g 27 #[x, y, z]) (hd : a.defers = [])
    {Q : Ending → World → Prop} (hQ : Q (.returned (.agg #[x, y, z])) w) : bodyPost Tryz.prog fn Q .ret a w := by
  obtain ⟨⟨fs, hu⟩, hi⟩ := range_facts
  exact bodyPost_ret (results_cell_row h a.tmps w g 27 #[x, y, z] (0, 0) _ hp hg hu rfl hi) hd hQ
theorem rng_var {w : World} {g T : Nat} {a b c : Value} (h : Blk w g T #[a, b, c]) :
    (w.cell? ⟨g, 0, none⟩ = some a ∧ w.cell? ⟨g, 1, none⟩ = some b ∧ w.cell? ⟨g, 2, none⟩ = some c ∧ w.frozen? ⟨g, 0, none⟩ = false ∧ w.frozen? ⟨g, 1, none⟩ = false ∧ w.frozen? ⟨g, 2, none⟩ = false) ∧
    ∀ x y z : Value, Blk (((w.setCell ⟨g, 0, none⟩ x).setCell ⟨g, 1, none⟩ y).setCell ⟨g, 2, none⟩ z) g T #[x, y, z] :=
  ⟨⟨h.cell 0, h.cell 1, h.cell 2, h.frozen 0, h.frozen 1, h.frozen 2⟩, fun x y z => by
    have := ((h.set_ 0 x).set_ 1 y).set_ 2 z
    simpa using this⟩
theorem set_three {w0 w : World} {B g : Nat} (h : Below B w0 w) (a b c : Value) (hg : B ≤ g := by omega) : Below B w0 (((w.setCell ⟨g, 0, none⟩ a).setCell ⟨g, 1, none⟩ b).setCell ⟨g, 2, none⟩ c) :=
  ((h.setCell (p := ⟨g, 0, none⟩) hg a).setCell (p := ⟨g, 1, none⟩) hg b).setCell (p := ⟨g, 2, none⟩) hg c
def spanM (S : List UInt8) (p q kind : Int) : Int × Int × Bool :=
  if kind = 2 then ((ofL S (min (alignM S p) (alignM S q) : Nat) : Nat), (ofL S (max (alignM S p) (alignM S q) : Nat) : Nat), true)
  else if kind = 1 then ((min (alignM S p) (alignM S q) : Nat), (nextM S (max (alignM S p) (alignM S q) : Nat) : Nat), false)
  else ((min (alignM S p) (alignM S q) : Nat), (max (alignM S p) (alignM S q) : Nat), false)
set_option maxHeartbeats 4000000 in
theorem refPSpan_any (S : List UInt8) (hS : S.length ≤ 1000000) (p q kind : Int) (w : World) :
    Calls Tryz.prog 14 #[.string ⟨S.toArray⟩, .int .i64 p, .int .i64 q, .int .i64 kind] w fun e w' => e = .returned (.agg #[.int .i64 (spanM S p q kind).1, .int .i64 (spanM S p q kind).2.1, .bool (spanM S p q kind).2.2]) ∧ Below w.heap.size w w' := by
  have HA := Lib.hid (fun wx => refMAlign S hS p wx)
  have HB := Lib.hid (fun wx => refMAlign S hS q wx)
  have ha := alignM_le S p
  have hb := alignM_le S q
  obtain ⟨v, hv⟩ : ∃ v, spanM S p q kind = v := ⟨_, rfl⟩
  rw [hv]
  unfold spanM at hv
  generalize alignM S p = a at *
  generalize alignM S q = b at *
  have b0 : Below w.heap.size w (w.alloc (.cells #[.int .i64 0, .int .i64 0, .bool false] 27)) := (Below.refl _ w).alloc (Nat.le_refl _) _
  have K := Lib.hid ((grow_blk (Blk.new w 27 #[.int .i64 0, .int .i64 0, .bool false])).and (grow_bel b0))
  clear b0
  obtain ⟨x, hx⟩ : ∃ x, min a b = x := ⟨_, rfl⟩
  obtain ⟨y, hy⟩ : ∃ y, max a b = y := ⟨_, rfl⟩
  rw [hx, hy] at hv
  have HV := Lib.hid hv
  clear hv
  have hx2 : ∀ (i : Decidable (b < a)), (@ite Int (b < a) i (b : Int) (a : Int)) = (x : Int) := fun i => by split <;> omega
  have hy1 : ∀ (i : Decidable (a < b)), (@ite Int (a < b) i (b : Int) (a : Int)) = (y : Int) := fun i => by split <;> omega
  have HX := Lib.hid (fun wx => refOf_any S hS (x : Nat) wx)
  have HY := Lib.hid (fun wx => refOf_any S hS (y : Nat) wx)
  have HN := Lib.hid (fun wx => refMNext S hS (y : Nat) wx)
  go_enter Tryz.func14, Tryz.ntmps14
  go_upto_region 1 with fail
  generalize w.alloc (.cells #[.int .i64 0, .int .i64 0, .bool false] 27) = wa at *
  go_upto_region 3 with (first
    | (go_at_call 32; refine use_factO b1 ?_; intro _; refine (HB.out _).mono ?_; rintro e w2 ⟨rfl, b2⟩; replace K := Lib.hid (K.out.step b2))
    | (go_at_call 32; refine (HA.out _).mono ?_; rintro e w1 ⟨rfl, b1⟩; replace K := Lib.hid (K.out.step b1)))
  clear hx2 hy1 hx hy ha hb b1
  obtain ⟨⟨r0, r1, r2, r3, r4, r5⟩, _⟩ := rng_var K.out.now.1
  by_cases h2 : kind = 2
  · subst h2
    have HV2 := Lib.hid (HV.out.symm.trans (if_pos rfl))
    clear HV
    go_wp2_with (first
      | (go_at_call 43; refine use_factO b3 ?_; intro _; refine (HY.out _).mono ?_; rintro e w4 ⟨rfl, b4⟩; replace K := Lib.hid (K.out.step b4); clear r0 r1 r2 r3 r4 r5; obtain ⟨⟨r0, r1, r2, r3, r4, r5⟩, _⟩ := rng_var K.out.now.1)
      | (go_at_call 43; refine (HX.out _).mono ?_; rintro e w3 ⟨rfl, b3⟩; replace K := Lib.hid (K.out.step b3)))
    obtain ⟨_, BV⟩ := rng_var K.out.now.1
    refine ret_range1 rfl _ _ w.heap.size _ _ _ rfl (BV _ _ _) rfl ?_
    rw [HV2.out]
    exact ⟨rfl, set_three K.out.now.2 _ _ _⟩
  · have HV1 := Lib.hid (HV.out.symm.trans (if_neg h2))
    clear HV
    have h2' : (kind == 2) = false := by rw [beq_eq_false_iff_ne]; exact h2
    by_cases h1 : kind = 1
    · subst h1
      have HV2 := Lib.hid (HV1.out.trans (if_pos rfl))
      go_wp2_with (go_at_call 44; refine (HN.out _).mono ?_; rintro e w3 ⟨rfl, b3⟩; replace K := Lib.hid (K.out.step b3); clear r0 r1 r2 r3 r4 r5; obtain ⟨⟨r0, r1, r2, r3, r4, r5⟩, _⟩ := rng_var K.out.now.1)
      obtain ⟨_, BV⟩ := rng_var K.out.now.1
      refine ret_range1 rfl _ _ w.heap.size _ _ _ rfl (BV _ _ _) rfl ?_
      rw [HV2.out]
      exact ⟨rfl, set_three K.out.now.2 _ _ _⟩
    · have HV2 := Lib.hid (HV1.out.trans (if_neg h1))
      have h1' : (kind == 1) = false := by rw [beq_eq_false_iff_ne]; exact h1
      go_wp2_with fail
      obtain ⟨_, BV⟩ := rng_var K.out.now.1
      refine ret_range1 rfl _ _ w.heap.size _ _ _ rfl (BV _ _ _) rfl ?_
      rw [HV2.out]
      exact ⟨rfl, set_three K.out.now.2 _ _ _⟩
end Go.Proofs.YtgpmfkedcoiopaaGreatDoor

/-
  What an operator does, as a value and in memory: layer 14.
-/
namespace Go.Proofs.YtgpmfkedcoiopaaGreatDoor
open Go.RowKit
set_option maxRecDepth 100000

structure OutP where
  E : EdP
  RS : List UInt8
  rl : List RunP
  lines : Bool
  wide : Bool
  at_ : Int
def out0 : OutP := ⟨edit0, [], [], false, false, 0⟩
def GivesO (w : World) (r : OutP × Nat) (e : Ending) (w' : World) : Prop :=
  ∃ A c B d C g, e = .returned (.tuple #[.agg #[.int .i64 r.1.E.a, .string ⟨r.1.E.S.toArray⟩, .slice A r.1.E.l.length c, .string ⟨r.1.E.X.toArray⟩, .slice B r.1.E.m.length d, .string ⟨r.1.RS.toArray⟩, .slice C r.1.rl.length g, .bool r.1.lines, .bool r.1.wide, .int .i64 r.1.at_], .int .i64 (r.2 : Nat)]) ∧ Row w' w'.heap.size A (flatR r.1.E.l) ∧ Row w' w'.heap.size B (flatR r.1.E.m) ∧ Row w' w'.heap.size C (flatR r.1.rl) ∧ Below w.heap.size w w'
theorem out_facts : (∃ fs, Tryz.prog.underlying 47 = some (.struct fs)) ∧ (Tryz.prog.info? 47).map (·.size) = some 10 := ⟨⟨_, Tryz.underlying47⟩, by kernel_rfl⟩
/-- many cells of a block stored, one after another -/
def setMany (w : World) (g : Nat) (us : List (Nat × Value)) : World := us.foldl (fun w p => w.setCell ⟨g, p.1, none⟩ p.2) w
section
variable {w w0 : World} {g T B : Nat} {cs : Array Value} {A : Option Addr} {xs : List Value}
theorem setMany_blk (h : Blk w g T cs) (us : List (Nat × Value)) : Blk (setMany w g us) g T (us.foldl (fun cs p => cs.setIfInBounds p.1 p.2) cs) := by
  induction us generalizing w cs with
  | nil => exact h
  | cons p us ih => exact ih (h.set_ p.1 p.2)
theorem setMany_below (h : Below B w0 w) (hg : B ≤ g) (us : List (Nat × Value)) : Below B w0 (setMany w g us) := by
  induction us generalizing w with
  | nil => exact h
  | cons p us ih => exact ih (h.setCell (p := ⟨g, p.1, none⟩) hg p.2)
theorem setMany_rowN (h : RowN w g A xs) (us : List (Nat × Value)) : RowN (setMany w g us) g A xs := by
  induction us generalizing w with
  | nil => exact h
  | cons p us ih => exact ih (h.set p.1 p.2)
/-- a text stays a text, and another block's cells stay, when cells of a block without labels are stored -/
theorem setMany_txu {S : List UInt8} {l : List RunP} (h : Txu w A S l) (hg : Blk w g T cs) (hn : NoLab cs) (us : List (Nat × Value)) : Txu (setMany w g us) A S l :=
  ⟨h.hS, h.hf, h.hl, (setMany_rowN (rowN_noLab h.row (Nat.le_refl _) hg hn) us).row⟩
theorem setMany_far {k : Nat} (h : Blk w k T cs) (hk : k ≠ g) (us : List (Nat × Value)) : Blk (setMany w g us) k T cs := by
  induction us generalizing w with
  | nil => exact h
  | cons p us ih => exact ih (h.far (p := ⟨g, p.1, none⟩) hk p.2)
end
theorem noLab_out {a z : Int} {s t r : ByteArray} {A B C : Option Addr} {i j k m n o : Nat} {b1 b2 : Bool} : NoLab #[.int .i64 a, .string s, .slice A i j, .string t, .slice B k m, .string r, .slice C n o, .bool b1, .bool b2, .int .i64 z] := by
  intro v hv n
  simp at hv
  rcases hv with rfl | rfl | rfl | rfl | rfl | rfl | rfl | rfl | rfl | rfl <;> simp
theorem out_cells {w : World} {g T : Nat} {v0 v1 v2 v3 v4 v5 v6 v7 v8 v9 : Value} (h : Blk w g T #[v0, v1, v2, v3, v4, v5, v6, v7, v8, v9]) :
    (w.cell? ⟨g, 0, none⟩ = some v0 ∧ w.cell? ⟨g, 1, none⟩ = some v1 ∧ w.cell? ⟨g, 2, none⟩ = some v2 ∧ w.cell? ⟨g, 3, none⟩ = some v3 ∧ w.cell? ⟨g, 4, none⟩ = some v4 ∧ w.cell? ⟨g, 5, none⟩ = some v5 ∧ w.cell? ⟨g, 6, none⟩ = some v6 ∧ w.cell? ⟨g, 7, none⟩ = some v7 ∧ w.cell? ⟨g, 8, none⟩ = some v8 ∧ w.cell? ⟨g, 9, none⟩ = some v9) ∧
    (w.frozen? ⟨g, 0, none⟩ = false ∧ w.frozen? ⟨g, 1, none⟩ = false ∧ w.frozen? ⟨g, 2, none⟩ = false ∧ w.frozen? ⟨g, 3, none⟩ = false ∧ w.frozen? ⟨g, 4, none⟩ = false ∧ w.frozen? ⟨g, 5, none⟩ = false ∧ w.frozen? ⟨g, 6, none⟩ = false ∧ w.frozen? ⟨g, 7, none⟩ = false ∧ w.frozen? ⟨g, 8, none⟩ = false ∧ w.frozen? ⟨g, 9, none⟩ = false) :=
  ⟨⟨h.cell 0, h.cell 1, h.cell 2, h.cell 3, h.cell 4, h.cell 5, h.cell 6, h.cell 7, h.cell 8, h.cell 9⟩, h.frozen 0, h.frozen 1, h.frozen 2, h.frozen 3, h.frozen 4, h.frozen 5, h.frozen 6, h.frozen 7, h.frozen 8, h.frozen 9⟩
theorem out_ten {w : World} {g T : Nat} {v0 v1 v2 v3 v4 v5 v6 v7 v8 v9 : Value} (h : Blk w g T #[v0, v1, v2, v3, v4, v5, v6, v7, v8, v9]) (u0 u1 u2 u3 u4 u5 u6 u7 u8 u9 : Value) :
    Blk (setMany w g [(0, u0), (1, u1), (2, u2), (3, u3), (4, u4), (5, u5), (6, u6), (7, u7), (8, u8), (9, u9)]) g T #[u0, u1, u2, u3, u4, u5, u6, u7, u8, u9] := by
  have := setMany_blk h [(0, u0), (1, u1), (2, u2), (3, u3), (4, u4), (5, u5), (6, u6), (7, u7), (8, u8), (9, u9)]
  simpa using this
theorem out_five {w : World} {g T : Nat} {v0 v1 v2 v3 v4 v5 v6 v7 v8 v9 : Value} (h : Blk w g T #[v0, v1, v2, v3, v4, v5, v6, v7, v8, v9]) (u0 u1 u2 u3 u4 : Value) :
    Blk (setMany w g [(0, u0), (1, u1), (2, u2), (3, u3), (4, u4)]) g T #[u0, u1, u2, u3, u4, v5, v6, v7, v8, v9] := by
  have := setMany_blk h [(0, u0), (1, u1), (2, u2), (3, u3), (4, u4)]
  simpa using this
/-- what takenM, and others, say of d, y and c -/
def takenM (S : List UInt8) (l : List RunP) (V : List UInt8) (y : Nat) (op f t : Int) (b : Bool) : OutP × Nat :=
  let p := bytesM V f t b
  let x := (cutOf S l p.1 p.2).1
  let wide := b || decide (1 < countL ((V.drop p.1.toNat).take (p.2.toNat - p.1.toNat)))
  if op = 121 then (⟨⟨p.1, [], [], [], []⟩, x.1, x.2, b, wide, p.1⟩, 0)
  else if op = 100 ∧ b = true then
    (⟨(turnedM S l y (wholeL V f t).1.1 (wholeL V f t).1.2 [] [] true).1.1, x.1, x.2, b, wide, (firstL (turnedM S l y (wholeL V f t).1.1 (wholeL V f t).1.2 [] [] true).1.2 f : Nat)⟩, 0)
  else (⟨(turnedM S l y p.1 p.2 [] [] true).1.1, x.1, x.2, b, wide, p.1⟩, 0)
end Go.Proofs.YtgpmfkedcoiopaaGreatDoor

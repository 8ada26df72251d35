/-
  Merged: OxLook, OxRepl, OxRng, OxYank, OxTake, OxRem, OxTurn.
-/
import Derived.Test.YtgpmfkedcoiopaaGreatDoorM14a
import Derived.Test.YtgpmfkedcoiopaaGreatDoorM14b
import Derived.Test.YtgpmfkedcoiopaaGreatDoorM07e
import Derived.Test.YtgpmfkedcoiopaaGreatDoorM04o
import Derived.Test.YtgpmfkedcoiopaaGreatDoorM14d
import Derived.Test.YtgpmfkedcoiopaaGreatDoorM06l
import Derived.Test.YtgpmfkedcoiopaaGreatDoorM12r
import Derived.Test.YtgpmfkedcoiopaaGreatDoorM14f
import Derived.Laws.BitsAllLaws
/-
  The landed look and replace; words for the landed package's answers: layer 14.
-/
namespace Go.Proofs.YtgpmfkedcoiopaaGreatDoor
open Go.RowKit
set_option maxRecDepth 100000

theorem si_facts : (∃ fs, Tryz.prog.underlying 89 = some (.struct fs)) ∧ (Tryz.prog.info? 89).map (·.size) = some 4 := ⟨⟨_, Tryz.underlying89⟩, by kernel_rfl⟩
theorem ox_facts : (∃ fs, Tryz.prog.underlying 43 = some (.struct fs)) ∧ (Tryz.prog.info? 43).map (·.size) = some 10 := ⟨⟨_, Tryz.underlying43⟩, by kernel_rfl⟩
theorem ret_cellT {fn : Func} {p u : Tmp} {T : TypeId} (hT : ∃ fs, Tryz.prog.underlying T = some (.struct fs)) (h : fn.results = #[.cell p T, .tmp u]) (a : Act) (w : World) (g : Nat) (cs : Array Value) {n : Nat} (hi : (Tryz.prog.info? T).map (·.size) = some n) (hp : a.tmps.getD p undef = .pointer (some ⟨g, 0, none⟩)) (hg : Blk w g T cs) (hn : cs.size = n) (hd : a.defers = [])
    {Q : Ending → World → Prop} (hQ : Q (.returned (.tuple #[.agg cs, a.tmps.getD u undef])) w) : bodyPost Tryz.prog fn Q .ret a w := by
  obtain ⟨fs, hu⟩ := hT
  refine bodyPost_ret (v := .tuple #[.agg cs, a.tmps.getD u undef]) ?_ hd hQ
  have hp' : a.tmps[p]?.getD undef = .pointer (some ⟨g, 0, none⟩) := by simpa using hp
  rw [results_cell_tmp h]
  simp [hp', asAddr, run_loadVar_row w g T T cs (0, 0) _ hg hu rfl (by rw [hi, hn])]
theorem ret_cell1T {fn : Func} {p : Tmp} {T : TypeId} (hT : ∃ fs, Tryz.prog.underlying T = some (.struct fs)) (h : fn.results = #[.cell p T]) (a : Act) (w : World) (g : Nat) (cs : Array Value) {n : Nat} (hi : (Tryz.prog.info? T).map (·.size) = some n) (hp : a.tmps.getD p undef = .pointer (some ⟨g, 0, none⟩)) (hg : Blk w g T cs) (hn : cs.size = n) (hd : a.defers = [])
    {Q : Ending → World → Prop} (hQ : Q (.returned (.agg cs)) w) : bodyPost Tryz.prog fn Q .ret a w := by
  obtain ⟨fs, hu⟩ := hT
  exact bodyPost_ret (results_cell_row h a.tmps w g T cs (0, 0) _ hp hg hu rfl (by rw [hi, hn])) hd hQ
theorem si_cells {w : World} {g T : Nat} {v0 v1 v2 v3 : Value} (h : Blk w g T #[v0, v1, v2, v3]) :
    (w.cell? ⟨g, 0, none⟩ = some v0 ∧ w.cell? ⟨g, 1, none⟩ = some v1 ∧ w.cell? ⟨g, 2, none⟩ = some v2 ∧ w.cell? ⟨g, 3, none⟩ = some v3) ∧ (w.frozen? ⟨g, 0, none⟩ = false ∧ w.frozen? ⟨g, 1, none⟩ = false ∧ w.frozen? ⟨g, 2, none⟩ = false ∧ w.frozen? ⟨g, 3, none⟩ = false) :=
  ⟨⟨h.cell 0, h.cell 1, h.cell 2, h.cell 3⟩, h.frozen 0, h.frozen 1, h.frozen 2, h.frozen 3⟩
theorem blk_four {w : World} {g T : Nat} {v0 v1 v2 v3 : Value} (h : Blk w g T #[v0, v1, v2, v3]) (u0 u1 u2 u3 : Value) :
    Blk ((((w.setCell ⟨g, 0, none⟩ u0).setCell ⟨g, 1, none⟩ u1).setCell ⟨g, 2, none⟩ u2).setCell ⟨g, 3, none⟩ u3) g T #[u0, u1, u2, u3] := by
  have := ((((h.set_ 0 u0).set_ 1 u1).set_ 2 u2).set_ 3 u3)
  simpa using this
theorem out_endT {w wr : World} {A B C : Option Addr} {l m q : List RunP} {g T : Nat} {cs : Array Value} (hres : Blk wr g T cs) (hn : NoLab cs) (hb : Below w.heap.size w wr) (hg : w.heap.size ≤ g) (rA : Row wr wr.heap.size A (flatR l)) (rB : Row wr wr.heap.size B (flatR m)) (rC : Row wr wr.heap.size C (flatR q)) (us : List (Nat × Value)) :
    Row (setMany wr g us) (setMany wr g us).heap.size A (flatR l) ∧ Row (setMany wr g us) (setMany wr g us).heap.size B (flatR m) ∧ Row (setMany wr g us) (setMany wr g us).heap.size C (flatR q) ∧ Below w.heap.size w (setMany wr g us) :=
  ⟨(setMany_rowN (rowN_noLab rA (Nat.le_refl _) hres hn) us).row, (setMany_rowN (rowN_noLab rB (Nat.le_refl _) hres hn) us).row, (setMany_rowN (rowN_noLab rC (Nat.le_refl _) hres hn) us).row, setMany_below hb hg us⟩
/-- the last store: ten cells into the result's variable -/
theorem end_out {fn : Func} {p u : Tmp} (h : fn.results = #[.cell p 43, .tmp u]) (act : Act) {w wr : World} {g : Nat} {r0 r1 r2 r3 r4 r5 r6 r7 r8 r9 : Value} (hres : Blk wr g 43 #[r0, r1, r2, r3, r4, r5, r6, r7, r8, r9]) (hn : NoLab #[r0, r1, r2, r3, r4, r5, r6, r7, r8, r9]) (hb : Below w.heap.size w wr) (hg : w.heap.size ≤ g)
    {A B C : Option Addr} {c d k : Nat} {a z : Int} {S X R : List UInt8} {l m q : List RunP} {bl bw : Bool} {n : Nat} (rA : Row wr wr.heap.size A (flatR l)) (rB : Row wr wr.heap.size B (flatR m)) (rC : Row wr wr.heap.size C (flatR q)) (hp : act.tmps.getD p undef = .pointer (some ⟨g, 0, none⟩)) (hu : act.tmps.getD u undef = .int .i64 (n : Nat)) (hd : act.defers = [])
    {v : OutP × Nat} (hv : ((⟨⟨a, S, l, X, m⟩, R, q, bl, bw, z⟩ : OutP), n) = v) {Q : Ending → World → Prop} (hQ : ∀ e w', GivesO w v e w' → Q e w') :
    bodyPost Tryz.prog fn Q .ret act ((((((((((wr.setCell ⟨g, 0, none⟩ (.int .i64 a)).setCell ⟨g, 1, none⟩ (.string ⟨S.toArray⟩)).setCell ⟨g, 2, none⟩ (.slice A l.length c)).setCell ⟨g, 3, none⟩ (.string ⟨X.toArray⟩)).setCell ⟨g, 4, none⟩ (.slice B m.length d)).setCell ⟨g, 5, none⟩ (.string ⟨R.toArray⟩)).setCell ⟨g, 6, none⟩ (.slice C q.length k)).setCell ⟨g, 7, none⟩ (.bool bl)).setCell ⟨g, 8, none⟩ (.bool bw)).setCell ⟨g, 9, none⟩ (.int .i64 z)) := by
  have EE := out_endT (A := A) (B := B) (C := C) (l := l) (m := m) (q := q) hres hn hb hg rA rB rC [(0, .int .i64 a), (1, .string ⟨S.toArray⟩), (2, .slice A l.length c), (3, .string ⟨X.toArray⟩), (4, .slice B m.length d), (5, .string ⟨R.toArray⟩), (6, .slice C q.length k), (7, .bool bl), (8, .bool bw), (9, .int .i64 z)]
  have EB := out_ten hres (.int .i64 a) (.string ⟨S.toArray⟩) (.slice A l.length c) (.string ⟨X.toArray⟩) (.slice B m.length d) (.string ⟨R.toArray⟩) (.slice C q.length k) (.bool bl) (.bool bw) (.int .i64 z)
  change bodyPost _ _ _ _ _ (setMany wr g [(0, .int .i64 a), (1, .string ⟨S.toArray⟩), (2, .slice A l.length c), (3, .string ⟨X.toArray⟩), (4, .slice B m.length d), (5, .string ⟨R.toArray⟩), (6, .slice C q.length k), (7, .bool bl), (8, .bool bw), (9, .int .i64 z)])
  generalize setMany wr g [(0, .int .i64 a), (1, .string ⟨S.toArray⟩), (2, .slice A l.length c), (3, .string ⟨X.toArray⟩), (4, .slice B m.length d), (5, .string ⟨R.toArray⟩), (6, .slice C q.length k), (7, .bool bl), (8, .bool bw), (9, .int .i64 z)] = wz at *
  refine ret_cellT ox_facts.1 h act wz g _ ox_facts.2 hp EB rfl hd (hQ _ _ ?_)
  rw [hu, ← hv]
  exact ⟨A, c, B, d, C, k, rfl, EE.1, EE.2.1, EE.2.2.1, EE.2.2.2⟩
/-- .. the zero answer -/
theorem end_zero {fn : Func} {p u : Tmp} (h : fn.results = #[.cell p 43, .tmp u]) (act : Act) {w wr : World} {g : Nat} {r0 r1 r2 r3 r4 r5 r6 r7 r8 r9 : Value} (hres : Blk wr g 43 #[r0, r1, r2, r3, r4, r5, r6, r7, r8, r9]) (hn : NoLab #[r0, r1, r2, r3, r4, r5, r6, r7, r8, r9]) (hb : Below w.heap.size w wr) (hg : w.heap.size ≤ g)
    {n : Nat} (hp : act.tmps.getD p undef = .pointer (some ⟨g, 0, none⟩)) (hu : act.tmps.getD u undef = .int .i64 (n : Nat)) (hd : act.defers = [])
    {v : OutP × Nat} (hv : (out0, n) = v) {Q : Ending → World → Prop} (hQ : ∀ e w', GivesO w v e w' → Q e w') :
    bodyPost Tryz.prog fn Q .ret act ((((((((((wr.setCell ⟨g, 0, none⟩ (.int .i64 0)).setCell ⟨g, 1, none⟩ (.string ⟨#[]⟩)).setCell ⟨g, 2, none⟩ (.slice none 0 0)).setCell ⟨g, 3, none⟩ (.string ⟨#[]⟩)).setCell ⟨g, 4, none⟩ (.slice none 0 0)).setCell ⟨g, 5, none⟩ (.string ⟨#[]⟩)).setCell ⟨g, 6, none⟩ (.slice none 0 0)).setCell ⟨g, 7, none⟩ (.bool false)).setCell ⟨g, 8, none⟩ (.bool false)).setCell ⟨g, 9, none⟩ (.int .i64 0)) :=
  end_out (A := none) (B := none) (C := none) (c := 0) (d := 0) (k := 0) (S := []) (X := []) (R := []) (l := []) (m := []) (q := []) h act hres hn hb hg (.inl rfl) (.inl rfl) (.inl rfl) hp hu hd hv hQ
def GivesO1 (w : World) (o : OutP) (e : Ending) (w' : World) : Prop :=
  ∃ A c B d C g, e = .returned (.agg #[.int .i64 o.E.a, .string ⟨o.E.S.toArray⟩, .slice A o.E.l.length c, .string ⟨o.E.X.toArray⟩, .slice B o.E.m.length d, .string ⟨o.RS.toArray⟩, .slice C o.rl.length g, .bool o.lines, .bool o.wide, .int .i64 o.at_]) ∧ Row w' w'.heap.size A (flatR o.E.l) ∧ Row w' w'.heap.size B (flatR o.E.m) ∧ Row w' w'.heap.size C (flatR o.rl) ∧ Below w.heap.size w w'
theorem end_out1 {fn : Func} {p : Tmp} (h : fn.results = #[.cell p 43]) (act : Act) {w wr : World} {g : Nat} {r0 r1 r2 r3 r4 r5 r6 r7 r8 r9 : Value} (hres : Blk wr g 43 #[r0, r1, r2, r3, r4, r5, r6, r7, r8, r9]) (hn : NoLab #[r0, r1, r2, r3, r4, r5, r6, r7, r8, r9]) (hb : Below w.heap.size w wr) (hg : w.heap.size ≤ g)
    {A B C : Option Addr} {c d k : Nat} {a z : Int} {S X R : List UInt8} {l m q : List RunP} {bl bw : Bool} (rA : Row wr wr.heap.size A (flatR l)) (rB : Row wr wr.heap.size B (flatR m)) (rC : Row wr wr.heap.size C (flatR q)) (hp : act.tmps.getD p undef = .pointer (some ⟨g, 0, none⟩)) (hd : act.defers = [])
    {v : OutP} (hv : (⟨⟨a, S, l, X, m⟩, R, q, bl, bw, z⟩ : OutP) = v) {Q : Ending → World → Prop} (hQ : ∀ e w', GivesO1 w v e w' → Q e w') :
    bodyPost Tryz.prog fn Q .ret act ((((((((((wr.setCell ⟨g, 0, none⟩ (.int .i64 a)).setCell ⟨g, 1, none⟩ (.string ⟨S.toArray⟩)).setCell ⟨g, 2, none⟩ (.slice A l.length c)).setCell ⟨g, 3, none⟩ (.string ⟨X.toArray⟩)).setCell ⟨g, 4, none⟩ (.slice B m.length d)).setCell ⟨g, 5, none⟩ (.string ⟨R.toArray⟩)).setCell ⟨g, 6, none⟩ (.slice C q.length k)).setCell ⟨g, 7, none⟩ (.bool bl)).setCell ⟨g, 8, none⟩ (.bool bw)).setCell ⟨g, 9, none⟩ (.int .i64 z)) := by
  have EE := out_endT (A := A) (B := B) (C := C) (l := l) (m := m) (q := q) hres hn hb hg rA rB rC [(0, .int .i64 a), (1, .string ⟨S.toArray⟩), (2, .slice A l.length c), (3, .string ⟨X.toArray⟩), (4, .slice B m.length d), (5, .string ⟨R.toArray⟩), (6, .slice C q.length k), (7, .bool bl), (8, .bool bw), (9, .int .i64 z)]
  have EB := out_ten hres (.int .i64 a) (.string ⟨S.toArray⟩) (.slice A l.length c) (.string ⟨X.toArray⟩) (.slice B m.length d) (.string ⟨R.toArray⟩) (.slice C q.length k) (.bool bl) (.bool bw) (.int .i64 z)
  change bodyPost _ _ _ _ _ (setMany wr g [(0, .int .i64 a), (1, .string ⟨S.toArray⟩), (2, .slice A l.length c), (3, .string ⟨X.toArray⟩), (4, .slice B m.length d), (5, .string ⟨R.toArray⟩), (6, .slice C q.length k), (7, .bool bl), (8, .bool bw), (9, .int .i64 z)])
  generalize setMany wr g [(0, .int .i64 a), (1, .string ⟨S.toArray⟩), (2, .slice A l.length c), (3, .string ⟨X.toArray⟩), (4, .slice B m.length d), (5, .string ⟨R.toArray⟩), (6, .slice C q.length k), (7, .bool bl), (8, .bool bw), (9, .int .i64 z)] = wz at *
  refine ret_cell1T ox_facts.1 h act wz g _ ox_facts.2 hp EB rfl hd (hQ _ _ ?_)
  rw [← hv]
  exact ⟨A, c, B, d, C, k, rfl, EE.1, EE.2.1, EE.2.2.1, EE.2.2.2⟩
/-- what is kept: the sight's box, the result's, the text -/
structure SiK (w wr : World) (gr : Nat) (A : Option Addr) (c : Nat) (S : List UInt8) (l : List RunP) (y : Nat) (V : List UInt8) : Prop where
  si : Blk wr w.heap.size 89 #[.string ⟨S.toArray⟩, .slice A l.length c, .int .u64 (y : Nat), .string ⟨V.toArray⟩]
  res : Blk wr gr 43 #[.int .i64 0, .string ⟨#[]⟩, .slice none 0 0, .string ⟨#[]⟩, .slice none 0 0, .string ⟨#[]⟩, .slice none 0 0, .bool false, .bool false, .int .i64 0]
  bel : Below w.heap.size w wr
  tS : Txu wr A S l
  low : w.heap.size < gr
section
variable {w wr w' : World} {gr : Nat} {A : Option Addr} {c : Nat} {S : List UInt8} {l : List RunP} {y : Nat} {V : List UInt8}
theorem SiK.step (h : SiK w wr gr A c S l y V) (hb : Below wr.heap.size wr w') : SiK w w' gr A c S l y V :=
  ⟨h.si.below hb h.si.lt, h.res.below hb h.res.lt, h.bel.trans (hb.mono h.bel.size), grow_txu h.tS _ hb, h.low⟩
theorem SiK.alloc (h : SiK w wr gr A c S l y V) (o : Obj) : SiK w (wr.alloc o) gr A c S l y V := h.step ((Below.refl _ _).alloc (Nat.le_refl _) o)
theorem SiK.many (h : SiK w wr gr A c S l y V) {g T : Nat} {cs : Array Value} (hg : Blk wr g T cs) (hn : NoLab cs) (hlow : gr < g) (us : List (Nat × Value)) : SiK w (setMany wr g us) gr A c S l y V :=
  ⟨setMany_far h.si (by have := h.low; omega) us, setMany_far h.res (by omega) us, setMany_below h.bel (by have := h.low; omega) us, setMany_txu h.tS hg hn us, h.low⟩
theorem noLab_txt {s : ByteArray} {B : Option Addr} {i j : Nat} : NoLab #[.string s, .slice B i j] := by
  intro v hv n
  simp at hv
  rcases hv with rfl | rfl <;> simp
theorem SiK.start (h : Txu w A S l) : SiK w ((w.alloc (.cells #[.string ⟨S.toArray⟩, .slice A l.length c, .int .u64 (y : Nat), .string ⟨V.toArray⟩] 89)).alloc (.cells #[.int .i64 0, .string ⟨#[]⟩, .slice none 0 0, .string ⟨#[]⟩, .slice none 0 0, .string ⟨#[]⟩, .slice none 0 0, .bool false, .bool false, .int .i64 0] 43)) (w.heap.size + 1) A c S l y V := by
  have BX := boxesE2 w 89 43 #[.string ⟨S.toArray⟩, .slice A l.length c, .int .u64 (y : Nat), .string ⟨V.toArray⟩] #[.int .i64 0, .string ⟨#[]⟩, .slice none 0 0, .string ⟨#[]⟩, .slice none 0 0, .string ⟨#[]⟩, .slice none 0 0, .bool false, .bool false, .int .i64 0]
  exact ⟨BX.now.1, BX.now.2.1, BX.now.2.2, grow_txu h _ BX.now.2.2, Nat.lt_succ_self _⟩
theorem SiK.start3 (h : Txu w A S l) (T : TypeId) (cs : Array Value) : SiK w (((w.alloc (.cells #[.string ⟨S.toArray⟩, .slice A l.length c, .int .u64 (y : Nat), .string ⟨V.toArray⟩] 89)).alloc (.cells cs T)).alloc (.cells #[.int .i64 0, .string ⟨#[]⟩, .slice none 0 0, .string ⟨#[]⟩, .slice none 0 0, .string ⟨#[]⟩, .slice none 0 0, .bool false, .bool false, .int .i64 0] 43)) (w.heap.size + 1 + 1) A c S l y V ∧ Blk (((w.alloc (.cells #[.string ⟨S.toArray⟩, .slice A l.length c, .int .u64 (y : Nat), .string ⟨V.toArray⟩] 89)).alloc (.cells cs T)).alloc (.cells #[.int .i64 0, .string ⟨#[]⟩, .slice none 0 0, .string ⟨#[]⟩, .slice none 0 0, .string ⟨#[]⟩, .slice none 0 0, .bool false, .bool false, .int .i64 0] 43)) (w.heap.size + 1) T cs := by
  have BX := boxesE3 w 89 T 43 #[.string ⟨S.toArray⟩, .slice A l.length c, .int .u64 (y : Nat), .string ⟨V.toArray⟩] cs #[.int .i64 0, .string ⟨#[]⟩, .slice none 0 0, .string ⟨#[]⟩, .slice none 0 0, .string ⟨#[]⟩, .slice none 0 0, .bool false, .bool false, .int .i64 0]
  exact ⟨⟨BX.now.1, BX.now.2.2.1, BX.now.2.2.2, grow_txu h _ BX.now.2.2.2, by omega⟩, BX.now.2.1⟩
end
def GivesSi (w : World) (S : List UInt8) (l : List RunP) (y : Nat) (V : List UInt8) (n : Nat) (e : Ending) (w' : World) : Prop :=
  ∃ A c, e = .returned (.tuple #[.agg #[.string ⟨S.toArray⟩, .slice A l.length c, .int .u64 (y : Nat), .string ⟨V.toArray⟩], .int .i64 (n : Nat)]) ∧ Txu w' A S l ∧ Below w.heap.size w w'
set_option maxHeartbeats 2000000 in
theorem oxLook_any (A : Option Addr) (c : Nat) (S : List UInt8) (l : List RunP) (y : Nat) (hy : y < 18446744073709551616) (w : World) (h : Txu w A S l) :
    Calls Tryz.prog 46 #[.agg #[.string ⟨S.toArray⟩, .slice A l.length c], .int .u64 (y : Nat)] w (GivesSi w S l y (viewOf S l y).1 (viewOf S l y).2) := by
  obtain ⟨v, hv⟩ : ∃ v, viewOf S l y = v := ⟨_, rfl⟩
  rw [hv]
  have HV := Lib.hid hv
  clear hv
  obtain ⟨V, n⟩ := v
  have BX := Lib.hid (boxesE2 w 32 89 #[.string ⟨S.toArray⟩, .slice A l.length c] #[.string ⟨#[]⟩, .slice none 0 0, .int .u64 0, .string ⟨#[]⟩])
  have K := Lib.hid (BX.out.and (((grow_txu h).and (grow_rowN (rowN_row (g := w.heap.size + 1) h.row (Nat.le_refl _) (Nat.le_succ _)))).step BX.out.now.2.2))
  have FH := Lib.hid (And.intro h.hS (And.intro h.hf h.hl))
  clear h BX
  go_enter Tryz.func46, Tryz.ntmps46
  go_upto_region 1 with fail
  generalize (w.alloc (.cells #[.string ⟨S.toArray⟩, .slice A l.length c] 32)).alloc (.cells #[.string ⟨#[]⟩, .slice none 0 0, .int .u64 0, .string ⟨#[]⟩] 89) = wx at *
  obtain ⟨y0, y1⟩ := txt_cells K.out.now.1.1
  go_wp2_with (go_at_call 34; refine (stpView_any A c _ S l y hy _ (Nat.le_refl _) K.out.now.2.1).mono ?_; rw [HV.out]; rintro ee w2 ⟨rfl, bb⟩; replace K := Lib.hid (K.out.step bb); clear y0 y1 bb; obtain ⟨y0, y1⟩ := txt_cells K.out.now.1.1; obtain ⟨⟨z0, z1, z2, z3⟩, t0, t1, t2, t3⟩ := si_cells K.out.now.1.2.1)
  have N2 := K.out.now.2.2
  have EB := blk_four K.out.now.1.2.1 (.string ⟨S.toArray⟩) (.slice A l.length c) (.int .u64 (y : Nat)) (.string ⟨V.toArray⟩)
  have N3 := ((((N2.set 0 (.string ⟨S.toArray⟩)).set 1 (.slice A l.length c)).set 2 (.int .u64 (y : Nat))).set 3 (.string ⟨V.toArray⟩)).row
  have hk : ∀ i, w.heap.size ≤ (⟨w.heap.size + 1, i, none⟩ : Addr).block := fun i => Nat.le_succ _
  have B3 := (((K.out.now.1.2.2.setCell (hk 0) (.string ⟨S.toArray⟩)).setCell (hk 1) (.slice A l.length c)).setCell (hk 2) (.int .u64 (y : Nat))).setCell (hk 3) (.string ⟨V.toArray⟩)
  refine ret_cellT si_facts.1 rfl _ _ (w.heap.size + 1) _ si_facts.2 rfl EB rfl rfl ?_
  exact ⟨A, c, rfl, ⟨FH.out.1, FH.out.2.1, FH.out.2.2, N3⟩, B3⟩
end Go.Proofs.YtgpmfkedcoiopaaGreatDoor

/-
  The landed sight.replace: the edit by which a text comes in place of some bytes, and the view behind: layer 14.
-/
namespace Go.Proofs.YtgpmfkedcoiopaaGreatDoor
open Go.RowKit
set_option maxRecDepth 100000

theorem splice_goodX {S X : List UInt8} {l m : List RunP} {f t : Int} {y : Nat} (h : (spliceT S l f t X m).2 = 0) : (viewOf (spliceT S l f t X m).1.1 (spliceT S l f t X m).1.2 y).2 = 0 := by
  have hg : goodT (spliceT S l f t X m).1.1 (spliceT S l f t X m).1.2 = true := splice_good h
  unfold viewOf
  rw [if_pos hg]
set_option maxHeartbeats 4000000 in
theorem oxRepl_any (A A2 : Option Addr) (c d : Nat) (S : List UInt8) (l : List RunP) (y : Nat) (hy : y < 18446744073709551616) (V0 : List UInt8) (f e : Int) (X : List UInt8) (m : List RunP) (hm : m.length ≤ 1000000) (w : World) (h : Txu w A S l) (hX : Txu w A2 X m) :
    Calls Tryz.prog 69 #[.agg #[.string ⟨S.toArray⟩, .slice A l.length c, .int .u64 (y : Nat), .string ⟨V0.toArray⟩], .int .i64 f, .int .i64 e, .agg #[.string ⟨X.toArray⟩, .slice A2 m.length d]] w (GivesEV w (turnedM S l y f e X m true)) := by
  have BX := Lib.hid (boxesE3 w 89 32 41 #[.string ⟨S.toArray⟩, .slice A l.length c, .int .u64 (y : Nat), .string ⟨V0.toArray⟩] #[.string ⟨X.toArray⟩, .slice A2 m.length d] #[.int .i64 0, .string ⟨#[]⟩, .slice none 0 0, .string ⟨#[]⟩, .slice none 0 0])
  have K := Lib.hid (BX.out.and (((grow_txu h).and (grow_txu hX)).step BX.out.now.2.2.2))
  have FF := Lib.hid (And.intro h.hf hX.hf)
  have FX := Lib.hid (And.intro hX.hS hX.hl)
  clear h hX BX
  obtain ⟨⟨y0, y1, y2, y3⟩, _⟩ := si_cells K.out.now.1.1; obtain ⟨z0, z1⟩ := txt_cells K.out.now.1.2.1; obtain ⟨⟨u0, u1, u2, u3, u4⟩, u5, u6, u7, u8, u9⟩ := ed_var K.out.now.1.2.2.1
  obtain ⟨p, hp⟩ : ∃ p, ofE S l f e X m = p := ⟨_, rfl⟩
  have HT : Hid (turnedM S l y f e X m true = if (ofE S l f e X m).2 = 0 then (((ofE S l f e X m).1, (viewOf (spliceT S l f e X m).1.1 (spliceT S l f e X m).1.2 y).1), 0) else ((edit0, []), (ofE S l f e X m).2)) := if_neg (by decide)
  obtain ⟨⟨a, U, q, V, r⟩, n⟩ := p
  have HP := Lib.hid hp
  by_cases hn : n = 0
  · subst hn
    obtain ⟨rfl, rfl, rfl, hcut, happ, hspl⟩ := of_apply hp
    have hok := okT_cut (S := S) (l := l) FF.out.1 a e
    rw [hcut] at hok
    have hok2 := okT_splice (S := S) (X := V) (l := l) (m := r) FF.out.1 FF.out.2 a e
    have hgd := splice_goodX (y := y) hspl
    obtain ⟨sp, hsp⟩ : ∃ sp, spliceT S l a e V r = sp := ⟨_, rfl⟩
    obtain ⟨⟨W, t⟩, n2⟩ := sp
    rw [hsp] at happ hspl hok2 HT hgd
    dsimp only at hspl hgd
    subst hspl
    rw [hp] at HT
    obtain ⟨vv, hvv⟩ : ∃ vv, viewOf W t y = vv := ⟨_, rfl⟩
    dsimp only at HT
    rw [if_pos rfl, hvv] at HT
    rw [hvv] at hgd
    obtain ⟨v1, v2⟩ := vv
    dsimp only at hgd
    subst hgd
    have HAP := Lib.hid happ
    have HVV := Lib.hid hvv
    have OK1 := Lib.hid hok
    have OK2 := Lib.hid hok2
    clear hp hcut happ hok hok2 hsp hvv
    go_enter Tryz.func69, Tryz.ntmps69
    go_upto_region 1 with fail
    generalize ((w.alloc (.cells #[.string ⟨S.toArray⟩, .slice A l.length c, .int .u64 (y : Nat), .string ⟨V0.toArray⟩] 89)).alloc (.cells #[.string ⟨V.toArray⟩, .slice A2 r.length d] 32)).alloc (.cells #[.int .i64 0, .string ⟨#[]⟩, .slice none 0 0, .string ⟨#[]⟩, .slice none 0 0] 41) = wx at *
    go_wp2_with (first
      | (go_at_call 126; refine (ediOf_any A A2 c d S l a e V r hm _ K.out.now.2.1 K.out.now.2.2).mono ?_; rw [HP.out]; rintro ee w2 ⟨A3, c3, A4, d4, rfl, r3, r4, bb⟩; dsimp only at r3 r4 ⊢; replace K := Lib.hid ((K.out.step bb).evar (c := c3) (d := d4) (a := a) (A := A3) (B := A4) (OK1.out.txt r3) ⟨FX.out.1, FF.out.2, FX.out.2, r4⟩); clear y0 y1 y2 y3 z0 z1 u0 u1 u2 u3 u4 u5 u6 u7 u8 u9; clear bb r3 r4; obtain ⟨⟨y0, y1, y2, y3⟩, _⟩ := si_cells K.out.now.2.1.1; obtain ⟨z0, z1⟩ := txt_cells K.out.now.2.1.2.1; obtain ⟨⟨u0, u1, u2, u3, u4⟩, u5, u6, u7, u8, u9⟩ := ed_var K.out.now.2.1.2.2.1; obtain ⟨v0, v1, v2, v3, v4⟩ := ed_cells K.out.now.1.1)
      | (go_at_call 39; refine (ediApply_any A A3 A4 c c3 d4 S l a U q V r _ K.out.now.2.2.1 K.out.now.1.2.1 K.out.now.1.2.2).mono ?_; rw [HAP.out]; rintro ee w4 ⟨A5, c5, rfl, own, bb⟩; dsimp only at own ⊢; replace K := Lib.hid ((K.out.step bb).var (c := c5) (OK2.out.txt (Row.of_own own))); clear y0 y1 y2 y3 z0 z1 u0 u1 u2 u3 u4 u5 u6 u7 u8 u9; clear v0 v1 v2 v3 v4 bb own; obtain ⟨⟨y0, y1, y2, y3⟩, _⟩ := si_cells K.out.now.2.2.1.1; obtain ⟨z0, z1⟩ := txt_cells K.out.now.2.2.1.2.1; obtain ⟨⟨u0, u1, u2, u3, u4⟩, u5, u6, u7, u8, u9⟩ := ed_var K.out.now.2.2.1.2.2.1; obtain ⟨v0, v1, v2, v3, v4⟩ := ed_cells K.out.now.2.1.1; obtain ⟨x0, x1⟩ := txt_cells K.out.now.1.1)
      | (go_at_call 34; refine (stpView_any A5 c5 _ W t y hy _ (Nat.le_refl _) K.out.now.1.2).mono ?_; rw [HVV.out]; rintro ee w6 ⟨rfl, bb⟩; replace K := Lib.hid (K.out.step bb); clear y0 y1 y2 y3 z0 z1 u0 u1 u2 u3 u4 u5 u6 u7 u8 u9; clear v0 v1 v2 v3 v4 x0 x1 bb; obtain ⟨⟨y0, y1, y2, y3⟩, _⟩ := si_cells K.out.now.2.2.1.1; obtain ⟨z0, z1⟩ := txt_cells K.out.now.2.2.1.2.1; obtain ⟨⟨u0, u1, u2, u3, u4⟩, u5, u6, u7, u8, u9⟩ := ed_var K.out.now.2.2.1.2.2.1; obtain ⟨v0, v1, v2, v3, v4⟩ := ed_cells K.out.now.2.1.1; obtain ⟨x0, x1⟩ := txt_cells K.out.now.1.1))
    have E := edit_end (A := A3) (A2 := A4) (l := q) (m := r) (s := ⟨U.toArray⟩) (x := ⟨V.toArray⟩) a K.out.now.2.2.1.2.2.2 K.out.now.2.2.1.2.2.1 (by omega) (rowN_noLab K.out.now.2.1.2.1.row (Nat.le_refl _) K.out.now.2.2.1.2.2.1 (noLab_edit _ _ _ _ _ _ _ _ _)) (rowN_noLab K.out.now.2.1.2.2.row (Nat.le_refl _) K.out.now.2.2.1.2.2.1 (noLab_edit _ _ _ _ _ _ _ _ _)) (.slice A3 q.length c3) (.slice A4 r.length d4)
    refine ret_edit3 rfl _ _ (w.heap.size + 1 + 1) _ _ _ _ _ rfl E.1 rfl ?_
    rw [HT.out]
    exact ⟨A3, c3, A4, d4, rfl, E.2.1, E.2.2.1, E.2.2.2⟩
  · rw [hp] at HT
    dsimp only at HT
    rw [if_neg hn] at HT
    have hn1 : ((n : Int) == 0) = false := by rw [beq_eq_false_iff_ne]; omega
    have hn2 : ((n : Int) != 0) = true := by rw [bne_iff_ne]; omega
    clear hp hn
    go_enter Tryz.func69, Tryz.ntmps69
    go_upto_region 1 with fail
    generalize ((w.alloc (.cells #[.string ⟨S.toArray⟩, .slice A l.length c, .int .u64 (y : Nat), .string ⟨V0.toArray⟩] 89)).alloc (.cells #[.string ⟨X.toArray⟩, .slice A2 m.length d] 32)).alloc (.cells #[.int .i64 0, .string ⟨#[]⟩, .slice none 0 0, .string ⟨#[]⟩, .slice none 0 0] 41) = wx at *
    go_wp2_with (go_at_call 126; refine (ediOf_any A A2 c d S l f e X m hm _ K.out.now.2.1 K.out.now.2.2).mono ?_; rw [HP.out]; rintro ee w2 ⟨A3, c3, A4, d4, rfl, r3, r4, bb⟩; dsimp only; replace K := Lib.hid ((K.out.step bb).alloc (.cells #[.int .i64 a, .string ⟨U.toArray⟩, .slice A3 q.length c3, .string ⟨V.toArray⟩, .slice A4 r.length d4] 41)); clear y0 y1 y2 y3 z0 z1 u0 u1 u2 u3 u4 u5 u6 u7 u8 u9; clear bb r3 r4; obtain ⟨⟨y0, y1, y2, y3⟩, _⟩ := si_cells K.out.now.1.1; obtain ⟨z0, z1⟩ := txt_cells K.out.now.1.2.1; obtain ⟨⟨u0, u1, u2, u3, u4⟩, u5, u6, u7, u8, u9⟩ := ed_var K.out.now.1.2.2.1)
    have E := edit_end (A := none) (A2 := none) (l := []) (m := []) (s := ⟨#[]⟩) (x := ⟨#[]⟩) 0 K.out.now.1.2.2.2 K.out.now.1.2.2.1 (by omega) (.inl rfl) (.inl rfl) (.slice none 0 0) (.slice none 0 0)
    refine ret_edit3 rfl _ _ (w.heap.size + 1 + 1) _ _ _ _ _ rfl E.1 rfl ?_
    rw [HT.out]
    exact ⟨none, 0, none, 0, rfl, E.2.1, E.2.2.1, E.2.2.2⟩
end Go.Proofs.YtgpmfkedcoiopaaGreatDoor

/-
  The landed has, bytesOf, linesOf, counted, letter: layer 14.
-/
namespace Go.Proofs.YtgpmfkedcoiopaaGreatDoor
open Go.RowKit
set_option maxRecDepth 100000

theorem rngX_new (w : World) (f t : Int) (b : Bool) : Grow (w.alloc (.cells #[.int .i64 f, .int .i64 t, .bool b] 25)) (fun w' => (w'.cell? ⟨w.heap.size, 0, none⟩ = some (.int .i64 f) ∧ w'.cell? ⟨w.heap.size, 1, none⟩ = some (.int .i64 t) ∧ w'.cell? ⟨w.heap.size, 2, none⟩ = some (.bool b)) ∧ Below w.heap.size w w') := fun w' hb => by
  have h := (Blk.new w 25 #[.int .i64 f, .int .i64 t, .bool b]).below hb (by simp)
  exact ⟨⟨h.cell 0, h.cell 1, h.cell 2⟩, ((Below.refl _ w).alloc (Nat.le_refl _) _).trans (hb.mono (by simp))⟩
set_option maxHeartbeats 2000000 in
theorem oxBytes_any (V : List UInt8) (hV : V.length ≤ 1000000) (f t : Int) (b : Bool) (w : World) :
    Calls Tryz.prog 48 #[.string ⟨V.toArray⟩, .agg #[.int .i64 f, .int .i64 t, .bool b]] w fun e w' => e = .returned (.tuple #[.int .i64 (bytesM V f t b).1, .int .i64 (bytesM V f t b).2]) ∧ Below w.heap.size w w' := by
  have K := Lib.hid (rngX_new w f t b)
  unfold bytesM
  cases b with
  | true =>
    rw [if_pos rfl]
    have HF := Lib.hid (fun wx => linBounds_any V hV f wx)
    have HT := Lib.hid (fun wx => linBounds_any V hV t wx)
    generalize boundsL V f = pf at *
    generalize boundsL V t = pt at *
    go_enter Tryz.func48, Tryz.ntmps48
    obtain ⟨x0, x1, x2⟩ := K.out.now.1
    go_upto_region 3 with fail
    generalize w.alloc (.cells #[.int .i64 f, .int .i64 t, .bool true] 25) = wa at *
    go_wp2_with (first
      | (go_at_call 64; refine use_factO b1 ?_; intro _; refine (HT.out _).mono ?_; rintro e w2 ⟨rfl, b2⟩; replace K := Lib.hid (K.out.step b2))
      | (go_at_call 64; refine (HF.out _).mono ?_; rintro e w1 ⟨rfl, b1⟩; replace K := Lib.hid (K.out.step b1); clear x0 x1 x2; obtain ⟨x0, x1, x2⟩ := K.out.now.1))
    go_ret2
    exact ⟨rfl, K.out.now.2⟩
  | false =>
    rw [if_neg (by decide)]
    go_enter Tryz.func48, Tryz.ntmps48
    obtain ⟨x0, x1, x2⟩ := K.out.now.1
    go_upto_region 2 with fail
    generalize w.alloc (.cells #[.int .i64 f, .int .i64 t, .bool false] 25) = wa at *
    go_quiet (fail)
    go_wp2_with fail
    go_ret2
    exact ⟨rfl, (K.out.drewN _).now.2⟩
set_option maxHeartbeats 2000000 in
theorem oxLines_any (V : List UInt8) (hV : V.length ≤ 1000000) (f t : Int) (b : Bool) (hf : 0 ≤ f) (hft : f ≤ t) (ht : t ≤ 1000000) (w : World) :
    Calls Tryz.prog 49 #[.string ⟨V.toArray⟩, .agg #[.int .i64 f, .int .i64 t, .bool b]] w fun e w' => e = .returned (.tuple #[.int .i64 (linesP V f t b).1, .int .i64 (linesP V f t b).2]) ∧ Below w.heap.size w w' := by
  have K := Lib.hid (rngX_new w f t b)
  unfold linesP
  cases b with
  | true =>
    rw [if_pos rfl]
    go_enter Tryz.func49, Tryz.ntmps49
    obtain ⟨x0, x1, x2⟩ := K.out.now.1
    go_upto_region 2 with fail
    generalize w.alloc (.cells #[.int .i64 f, .int .i64 t, .bool true] 25) = wa at *
    go_quiet (fail)
    go_wp2_with fail
    go_ret2
    exact ⟨rfl, (K.out.drewN _).now.2⟩
  | false =>
    rw [if_neg (by decide)]
    have hf' : f ≤ 1000000 := by omega
    have TO : ∀ (p : Int) (wa : World), Hid (∀ w', Below wa.heap.size wa w' → Calls Tryz.prog 41 #[.string ⟨V.toArray⟩, .int .i64 p] w' fun e w'' => e = .returned (.int .i64 (ofL V p : Nat)) ∧ Below wa.heap.size wa w'' ∧ Below w'.heap.size w' w'') := fun p wa w' hb => by
      refine (linOf_any V hV p w').mono ?_
      rintro e w2 ⟨rfl, bb⟩
      exact ⟨rfl, hb.trans (bb.mono hb.size), bb⟩
    have HF := TO f
    have hw : IntKind.i64.wrap (t - 1) = t - 1 := by
      rcases (show t = 0 ∨ 1 ≤ t by omega) with rfl | h1
      · decide
      · exact wrap_small (t - 1) (by omega) (by omega)
    by_cases hm : f < t - 1
    · have HT := TO (t - 1)
      rw [show max f (t - 1) = t - 1 by omega]
      clear TO
      generalize ofL V f = pf at *
      generalize ofL V (t - 1) = pt at *
      go_enter Tryz.func49, Tryz.ntmps49
      obtain ⟨x0, x1, x2⟩ := K.out.now.1
      go_upto_region 3 with fail
      generalize w.alloc (.cells #[.int .i64 f, .int .i64 t, .bool false] 25) = wa at *
      clear x0 x1 x2
      have KS : Hid (∀ w', Below wa.heap.size wa w' → (w'.cell? ⟨w.heap.size, 0, none⟩ = some (.int .i64 f) ∧ w'.cell? ⟨w.heap.size, 1, none⟩ = some (.int .i64 t) ∧ w'.cell? ⟨w.heap.size, 2, none⟩ = some (.bool false)) ∧ Below wa.heap.size wa w') := fun w' hb => ⟨(K.out _ hb).1, hb⟩
      have hb0 : Below wa.heap.size wa wa := Below.refl _ _
      have hsz : w.heap.size ≤ wa.heap.size := K.out.now.2.size
      have HK := Lib.hid K.out.now.2
      go_region_held3 (fun w' => (w'.cell? ⟨w.heap.size, 0, none⟩ = some (.int .i64 f) ∧ w'.cell? ⟨w.heap.size, 1, none⟩ = some (.int .i64 t) ∧ w'.cell? ⟨w.heap.size, 2, none⟩ = some (.bool false)) ∧ Below wa.heap.size wa w')
        ((refine KS.out _ ?_; (repeat (first | assumption | refine below_dr ?_ | refine below_al ?_ (Nat.le_refl _))); done))
        (first
          | (go_at_call 41; (with_reducible refine ((HF wa).out _ ?_).mono ?_); (repeat (first | assumption | refine below_dr ?_ | refine below_al ?_ (Nat.le_refl _))); rintro e w2 ⟨rfl, hbx, hby⟩)
          | (go_at_call 41; (with_reducible refine ((HT wa).out _ ?_).mono ?_); (repeat (first | assumption | refine below_dr ?_ | refine below_al ?_ (Nat.le_refl _))); rintro e w2 ⟨rfl, hbx, hby⟩))
      all_goals go_wp2_with fail
      all_goals go_ret2
      all_goals exact ⟨rfl, HK.out.trans (hbx.mono hsz)⟩
    · rw [show max f (t - 1) = f by omega]
      have hm2 : (if f < t - 1 then t - 1 else f) = f := if_neg hm
      clear TO
      generalize ofL V f = pf at *
      go_enter Tryz.func49, Tryz.ntmps49
      obtain ⟨x0, x1, x2⟩ := K.out.now.1
      go_upto_region 3 with fail
      generalize w.alloc (.cells #[.int .i64 f, .int .i64 t, .bool false] 25) = wa at *
      clear x0 x1 x2
      have KS : Hid (∀ w', Below wa.heap.size wa w' → (w'.cell? ⟨w.heap.size, 0, none⟩ = some (.int .i64 f) ∧ w'.cell? ⟨w.heap.size, 1, none⟩ = some (.int .i64 t) ∧ w'.cell? ⟨w.heap.size, 2, none⟩ = some (.bool false)) ∧ Below wa.heap.size wa w') := fun w' hb => ⟨(K.out _ hb).1, hb⟩
      have hb0 : Below wa.heap.size wa wa := Below.refl _ _
      have hsz : w.heap.size ≤ wa.heap.size := K.out.now.2.size
      have HK := Lib.hid K.out.now.2
      go_region_held3 (fun w' => (w'.cell? ⟨w.heap.size, 0, none⟩ = some (.int .i64 f) ∧ w'.cell? ⟨w.heap.size, 1, none⟩ = some (.int .i64 t) ∧ w'.cell? ⟨w.heap.size, 2, none⟩ = some (.bool false)) ∧ Below wa.heap.size wa w')
        ((refine KS.out _ ?_; (repeat (first | assumption | refine below_dr ?_ | refine below_al ?_ (Nat.le_refl _))); done))
        (first
          | (go_at_call 41; (with_reducible refine ((HF wa).out _ ?_).mono ?_); (repeat (first | assumption | refine below_dr ?_ | refine below_al ?_ (Nat.le_refl _))); rintro e w2 ⟨rfl, hbx, hby⟩))
      all_goals go_wp2_with fail
      all_goals go_ret2
      all_goals exact ⟨rfl, HK.out.trans (hbx.mono hsz)⟩
set_option maxHeartbeats 2000000 in
theorem oxHas_any (V : List UInt8) (hV : V.length ≤ 1000000) (f t : Int) (b : Bool) (w : World) :
    Calls Tryz.prog 47 #[.string ⟨V.toArray⟩, .agg #[.int .i64 f, .int .i64 t, .bool b]] w fun e w' => e = .returned (.bool (rightM V f t b)) ∧ Below w.heap.size w w' := by
  have K := Lib.hid (rngX_new w f t b)
  obtain ⟨v, hv⟩ : ∃ v, rightM V f t b = v := ⟨_, rfl⟩
  rw [hv]
  unfold rightM at hv
  cases b with
  | true =>
    rw [if_pos rfl] at hv
    obtain ⟨q, hq⟩ : ∃ q, wholeL V f t = q := ⟨_, rfl⟩
    have HW := Lib.hid (fun wx => linWhole_any V hV f t wx)
    rw [hq] at HW
    have HE : Hid ((((q.2 : Nat) : Int) == 0) = v) := by
      show _ = _
      rw [← hv, ← hq]
      unfold wholeL
      by_cases h : 0 ≤ f ∧ f ≤ t ∧ t < (countL V : Int)
      · rw [if_pos h, decide_eq_true h]; split <;> (try split) <;> rfl
      · rw [if_neg h, decide_eq_false h]; rfl
    clear hv hq
    obtain ⟨⟨q1, q2⟩, q3⟩ := q
    dsimp only at HE
    go_enter Tryz.func47, Tryz.ntmps47
    go_upto_region 1 with fail
    generalize w.alloc (.cells #[.int .i64 f, .int .i64 t, .bool true] 25) = wa at *
    obtain ⟨x0, x1, x2⟩ := K.out.now.1
    go_wp2_with (go_at_call 101; refine (HW.out _).mono ?_; rintro e w1 ⟨rfl, b1⟩; replace K := Lib.hid (K.out.step b1))
    go_ret
    exact ⟨by rw [← HE.out]; rfl, K.out.now.2⟩
  | false =>
    rw [if_neg (by decide)] at hv
    have HV := Lib.hid hv
    clear hv
    by_cases h0 : 0 ≤ f
    · have h0' : decide (0 ≤ f) = true := decide_eq_true h0
      by_cases h1 : f ≤ t
      · have h1' : decide (f ≤ t) = true := decide_eq_true h1
        have HE : Hid (decide (t ≤ (V.length : Int)) = v) := (decide_eq_decide.2 ⟨fun h => ⟨h0, h1, h⟩, fun h => h.2.2⟩).trans HV.out
        clear HV
        go_enter Tryz.func47, Tryz.ntmps47
        go_upto_region 1 with fail
        generalize w.alloc (.cells #[.int .i64 f, .int .i64 t, .bool false] 25) = wa at *
        obtain ⟨x0, x1, x2⟩ := K.out.now.1
        go_wp2_with fail
        go_ret
        exact ⟨by rw [← HE.out]; rfl, K.out.now.2⟩
      · have h1' : decide (f ≤ t) = false := decide_eq_false h1
        have HE : Hid (v = false) := HV.out.symm.trans (decide_eq_false fun h => h1 h.2.1)
        clear HV
        go_enter Tryz.func47, Tryz.ntmps47
        go_upto_region 1 with fail
        generalize w.alloc (.cells #[.int .i64 f, .int .i64 t, .bool false] 25) = wa at *
        obtain ⟨x0, x1, x2⟩ := K.out.now.1
        go_wp2_with fail
        go_ret
        exact ⟨by rw [HE.out]; rfl, K.out.now.2⟩
    · have h0' : decide (0 ≤ f) = false := decide_eq_false h0
      have HE : Hid (v = false) := HV.out.symm.trans (decide_eq_false fun h => h0 h.1)
      clear HV
      go_enter Tryz.func47, Tryz.ntmps47
      go_upto_region 1 with fail
      generalize w.alloc (.cells #[.int .i64 f, .int .i64 t, .bool false] 25) = wa at *
      obtain ⟨x0, x1, x2⟩ := K.out.now.1
      go_wp2_with fail
      go_ret
      exact ⟨by rw [HE.out]; rfl, K.out.now.2⟩
theorem oxCounted_any (n : Int) (w : World) : Calls Tryz.prog 63 #[.int .i64 n] w fun e w' => e = .returned (.int .i64 (manyM n : Nat)) ∧ w' = w := by
  have h := manyM_if n
  have HN := Lib.hid h
  clear h
  by_cases h1 : n < 1
  · have h2 : manyM n = 1 := by unfold manyM; omega
    rw [h2]
    go_enter Tryz.func63, Tryz.ntmps63
    go_wp2_with fail
    all_goals go_ret
    all_goals first | exact ⟨rfl, rfl⟩ | (exfalso; omega)
  · by_cases h3 : 999 < n
    · have h2 : manyM n = 999 := by unfold manyM; omega
      rw [h2]
      go_enter Tryz.func63, Tryz.ntmps63
      go_wp2_with fail
      all_goals go_ret
      all_goals first | exact ⟨rfl, rfl⟩ | (exfalso; omega)
    · have h2 : ((manyM n : Nat) : Int) = n := by unfold manyM; omega
      rw [h2]
      go_enter Tryz.func63, Tryz.ntmps63
      go_wp2_with fail
      all_goals go_ret
      all_goals first | exact ⟨rfl, rfl⟩ | (exfalso; omega)
def letB (b : UInt8) : Bool := decide ((97 ≤ b.toNat ∧ b.toNat ≤ 122) ∨ (65 ≤ b.toNat ∧ b.toNat ≤ 90))
theorem oxLetter_any (b : UInt8) (w : World) : Calls Tryz.prog 105 #[.int .u8 (b.toNat : Int)] w fun e w' => e = .returned (.bool (letB b)) ∧ w' = w := by
  have hb := b.toNat_lt
  obtain ⟨v, hv⟩ : ∃ v, letB b = v := ⟨_, rfl⟩
  rw [hv]
  unfold letB at hv
  generalize b.toNat = n at *
  have HV := Lib.hid hv
  clear hv
  by_cases h1 : 97 ≤ n
  · have g1 : decide ((97 : Int) ≤ (n : Int)) = true := decide_eq_true (by omega)
    by_cases h2 : n ≤ 122
    · have g2 : decide ((n : Int) ≤ 122) = true := decide_eq_true (by omega)
      obtain rfl : v = true := HV.out.symm.trans (decide_eq_true (.inl ⟨h1, h2⟩))
      go_enter Tryz.func105, Tryz.ntmps105
      go_wp2_with fail
      go_ret
      exact ⟨rfl, rfl⟩
    · have g2 : decide ((n : Int) ≤ 122) = false := decide_eq_false (by omega)
      have g3 : decide ((65 : Int) ≤ (n : Int)) = true := decide_eq_true (by omega)
      have g4 : decide ((n : Int) ≤ 90) = false := decide_eq_false (by omega)
      obtain rfl : v = false := HV.out.symm.trans (decide_eq_false (by omega))
      go_enter Tryz.func105, Tryz.ntmps105
      go_wp2_with fail
      go_ret
      exact ⟨rfl, rfl⟩
  · have g1 : decide ((97 : Int) ≤ (n : Int)) = false := decide_eq_false (by omega)
    by_cases h2 : 65 ≤ n
    · have g2 : decide ((65 : Int) ≤ (n : Int)) = true := decide_eq_true (by omega)
      by_cases h3 : n ≤ 90
      · have g3 : decide ((n : Int) ≤ 90) = true := decide_eq_true (by omega)
        obtain rfl : v = true := HV.out.symm.trans (decide_eq_true (.inr ⟨h2, h3⟩))
        go_enter Tryz.func105, Tryz.ntmps105
        go_wp2_with fail
        go_ret
        exact ⟨rfl, rfl⟩
      · have g3 : decide ((n : Int) ≤ 90) = false := decide_eq_false (by omega)
        obtain rfl : v = false := HV.out.symm.trans (decide_eq_false (by omega))
        go_enter Tryz.func105, Tryz.ntmps105
        go_wp2_with fail
        go_ret
        exact ⟨rfl, rfl⟩
    · have g2 : decide ((65 : Int) ≤ (n : Int)) = false := decide_eq_false (by omega)
      obtain rfl : v = false := HV.out.symm.trans (decide_eq_false (by omega))
      go_enter Tryz.func105, Tryz.ntmps105
      go_wp2_with fail
      go_ret
      exact ⟨rfl, rfl⟩
end Go.Proofs.YtgpmfkedcoiopaaGreatDoor

/-
  The landed yank, take, remove: layer 14.
-/
namespace Go.Proofs.YtgpmfkedcoiopaaGreatDoor
open Go.RowKit
set_option maxRecDepth 100000

theorem nl_in (U : List UInt8) : decide (0 ≤ Lib.indexByte U 10) = decide (1 < countL U) := by
  have hge := Lib.indexByte_ge U 10
  have hc := countL_count U
  refine decide_eq_decide.2 ⟨fun h => ?_, fun h => ?_⟩
  · obtain ⟨k, hk⟩ : ∃ k : Nat, Lib.indexByte U 10 = k := ⟨(Lib.indexByte U 10).toNat, by omega⟩
    obtain ⟨g1, _⟩ := Lib.indexByte_some hk
    have : 0 < U.count 10 := List.count_pos_iff.2 (List.mem_of_getElem? g1)
    omega
  · by_cases hi : Lib.indexByte U 10 = -1
    · have h0 : U.count 10 = 0 := by
        rw [List.count_eq_zero]
        intro hm
        obtain ⟨k, hk⟩ := List.mem_iff_getElem?.1 hm
        exact Lib.indexByte_none hi k hk
      omega
    · omega
theorem stdHas_any (S : List UInt8) (w : World) :
    Calls Tryz.prog 102 #[.string ⟨S.toArray⟩, .string ⟨#[10]⟩] w fun e w' => e = .returned (.bool (decide (1 < countL S))) ∧ w = w' := by
  have HN := Lib.hid (nl_in S)
  have HI := Lib.hid (fun wx => stdIndex_any S wx)
  generalize Lib.indexByte S 10 = i at *
  go_enter Tryz.func102, Tryz.ntmps102
  go_wp2_with (go_at_call 152; refine (HI.out _).mono ?_; rintro e w1 ⟨rfl, rfl⟩)
  go_ret
  exact ⟨by rw [← HN.out]; rfl, rfl⟩
theorem set_drewX (w : World) (p : Addr) (v : Value) : (w.setCell p v).drew = w.drew.setCell p v := rfl
def yankM (S : List UInt8) (l : List RunP) (V : List UInt8) (F E : Nat) (b : Bool) : OutP := ⟨⟨F, [], [], [], []⟩, (cutOf S l F E).1.1, (cutOf S l F E).1.2, b, b || decide (1 < countL ((V.drop F).take (E - F))), F⟩
set_option maxHeartbeats 8000000 in
theorem oxYank_any (A : Option Addr) (c : Nat) (S : List UInt8) (l : List RunP) (y : Nat) (V : List UInt8) (F E : Nat) (hFE : F ≤ E) (hE : E ≤ V.length) (_hV : V.length ≤ 4096) (b : Bool) (w : World) (h : Txu w A S l) :
    Calls Tryz.prog 50 #[.agg #[.string ⟨S.toArray⟩, .slice A l.length c, .int .u64 (y : Nat), .string ⟨V.toArray⟩], .int .i64 (F : Nat), .int .i64 (E : Nat), .bool b] w (GivesO1 w (yankM S l V F E b)) := by
  obtain ⟨v, hv⟩ : ∃ v, yankM S l V F E b = v := ⟨_, rfl⟩
  rw [hv]
  unfold yankM at hv
  obtain ⟨x, hx⟩ : ∃ x, cutOf S l (F : Nat) (E : Nat) = x := ⟨_, rfl⟩
  have hok := okT_cut (S := S) (l := l) h.hf (F : Nat) (E : Nat)
  rw [hx] at hok hv
  obtain ⟨⟨XS, xl⟩, xn⟩ := x
  obtain ⟨U, hU⟩ : ∃ U, (V.drop F).take (E - F) = U := ⟨_, rfl⟩
  have HSL : Hid (({ data := V.toArray } : ByteArray).extract F E = ⟨U.toArray⟩) := by show _ = _; rw [text_cut, hU]
  rw [hU] at hv
  have HC := Lib.hid (fun wx => stdHas_any U wx)
  obtain ⟨nd, hnd⟩ : ∃ nd, decide (1 < countL U) = nd := ⟨_, rfl⟩
  rw [hnd] at hv HC
  have HX := Lib.hid hx
  have HOK := Lib.hid hok
  have HV := Lib.hid hv
  clear hx hok hU hv hnd
  dsimp only at HV HOK
  have K0 : Hid (SiK w _ _ A c S l y V) := SiK.start h
  have x1 : (0 : Int) ≤ (F : Int) := by omega
  have x2 : (F : Int) ≤ (E : Int) := by omega
  have x3 : (E : Int) ≤ (V.length : Int) := by omega
  clear h
  go_enter Tryz.func50, Tryz.ntmps50
  go_upto_region 1 with fail
  generalize (w.alloc (.cells #[.string ⟨S.toArray⟩, .slice A l.length c, .int .u64 (y : Nat), .string ⟨V.toArray⟩] 89)).alloc (.cells #[.int .i64 0, .string ⟨#[]⟩, .slice none 0 0, .string ⟨#[]⟩, .slice none 0 0, .string ⟨#[]⟩, .slice none 0 0, .bool false, .bool false, .int .i64 0] 43) = wx at *
  obtain ⟨⟨y0, y1, y2, y3⟩, _⟩ := si_cells K0.out.si
  go_upto_region 2 with (go_at_call 37; refine (stpCut_any A c _ S l (F : Nat) (E : Nat) _ (Nat.le_refl _) K0.out.tS).mono ?_; rw [HX.out]; rintro e w2 ⟨A3, c3, rfl, own, bb⟩; dsimp only at own ⊢; have K2 := Lib.hid ((K0.out.step bb).alloc (.cells #[.string ⟨XS.toArray⟩, .slice A3 xl.length c3] 32)); have R2 := Lib.hid (row_step (Row.of_own own) ((Below.refl _ _).alloc (Nat.le_refl _) (.cells #[.string ⟨XS.toArray⟩, .slice A3 xl.length c3] 32))); have B2 := Lib.hid (Blk.new w2 32 #[.string ⟨XS.toArray⟩, .slice A3 xl.length c3]); have LOW : Hid (w.heap.size + 1 ≠ w2.heap.size) := Nat.ne_of_lt (K0.out.step bb).res.lt; clear y0 y1 y2 y3 bb own)
  generalize hg9 : w2.heap.size = g9 at *
  generalize w2.alloc (.cells #[.string ⟨XS.toArray⟩, .slice A3 xl.length c3] 32) = wb at *
  clear hg9 K0
  have LOWS : Hid (w.heap.size ≠ w.heap.size + 1) := Nat.ne_of_lt (Nat.lt_succ_self _)
  have hb0 : Below wb.heap.size wb wb := Below.refl _ _
  have hbz : Below wb.heap.size wb wb.drew := below_drewN hb0 1
  have KS : Hid (∀ w', Below wb.heap.size wb w' → ((w'.cell? ⟨g9, 0, none⟩ = some (.string ⟨XS.toArray⟩) ∧ w'.cell? ⟨g9, 1, none⟩ = some (.slice A3 xl.length c3)) ∧ w'.cell? ⟨w.heap.size, 3, none⟩ = some (.string ⟨V.toArray⟩))) := fun w' hb => ⟨txt_cells (B2.out.below hb B2.out.lt), (si_cells (K2.out.step hb).si).1.2.2.2⟩
  have T9 := Lib.hid (K2.out.step hbz)
  have RC := Lib.hid (row_step R2.out hbz)
  cases b with
  | true =>
    refine wp_region_held_drew (S := fun w' => ((w'.cell? ⟨g9, 0, none⟩ = some (.string ⟨XS.toArray⟩) ∧ w'.cell? ⟨g9, 1, none⟩ = some (.slice A3 xl.length c3)) ∧ w'.cell? ⟨w.heap.size, 3, none⟩ = some (.string ⟨V.toArray⟩))) (by kernel_rfl) (KS.out _ hbz) (fun hHeld => ?_)
    refine wpAnyH_take (i := 0) (v := ?_) rfl (by kernel_rfl) (by kernel_rfl) (by kernel_rfl) (fun _ _ _ h => h) (Or.inl ⟨by rfl, ?_⟩) (by assumption) ?_
    rotate_left
    · (intro w hSw; obtain ⟨⟨q0, q1⟩, q2⟩ := hSw; go_simp; (try with_reducible rfl))
    (try simp only [List.getElem_toArray, List.getElem_cons_zero, Act.put, List.setIfInBounds_toArray, List.set_cons_zero, List.set_cons_succ])
    refine wpAnyH_take (i := 1) (v := ?_) rfl (by kernel_rfl) (by kernel_rfl) (by kernel_rfl) (fun _ _ _ h => h) (Or.inl ⟨by rfl, ?_⟩) (by assumption) ?_
    rotate_left
    · (intro w hSw; obtain ⟨⟨q0, q1⟩, q2⟩ := hSw; go_simp; (try with_reducible rfl))
    (try simp only [List.getElem_toArray, List.getElem_cons_zero, List.getElem_cons_succ, Act.put, List.setIfInBounds_toArray, List.set_cons_zero, List.set_cons_succ])
    refine wpAnyH_take (i := 2) (v := ?_) rfl (by kernel_rfl) (by kernel_rfl) (by kernel_rfl) (fun _ _ _ h => h) (Or.inl ⟨by rfl, ?_⟩) (by assumption) ?_
    rotate_left
    · (intro w hSw; obtain ⟨⟨q0, q1⟩, q2⟩ := hSw; go_simp; (try with_reducible rfl))
    (try simp only [List.getElem_toArray, List.getElem_cons_zero, List.getElem_cons_succ, Act.put, List.setIfInBounds_toArray, List.set_cons_zero, List.set_cons_succ])
    refine wpAnyH_take (i := 3) (v := ?_) rfl (by kernel_rfl) (by kernel_rfl) (by kernel_rfl) (fun _ _ _ h => h) (Or.inl ⟨by rfl, ?_⟩) (by assumption) ?_
    rotate_left
    · (intro w hSw; obtain ⟨⟨q0, q1⟩, q2⟩ := hSw; go_simp; (try with_reducible rfl))
    (try simp only [List.getElem_toArray, List.getElem_cons_zero, List.getElem_cons_succ, Act.put, List.setIfInBounds_toArray, List.set_cons_zero, List.set_cons_succ])
    refine wpAnyH_take (i := 4) (v := ?_) rfl (by kernel_rfl) (by kernel_rfl) (by kernel_rfl) (fun _ _ _ h => h) (Or.inl ⟨by rfl, ?_⟩) (by assumption) ?_
    rotate_left
    · (intro w hSw; obtain ⟨⟨q0, q1⟩, q2⟩ := hSw; go_simp; (try with_reducible rfl))
    (try simp only [List.getElem_toArray, List.getElem_cons_zero, List.getElem_cons_succ, Act.put, List.setIfInBounds_toArray, List.set_cons_zero, List.set_cons_succ])
    refine wpAnyH_take (i := 5) (v := ?_) rfl (by kernel_rfl) (by kernel_rfl) (by kernel_rfl) (fun _ _ _ h => h) (Or.inl ⟨by rfl, ?_⟩) (by assumption) ?_
    rotate_left
    · (intro w hSw; obtain ⟨⟨q0, q1⟩, q2⟩ := hSw; go_simp; (try with_reducible rfl))
    (try simp only [List.getElem_toArray, List.getElem_cons_zero, List.getElem_cons_succ, Act.put, List.setIfInBounds_toArray, List.set_cons_zero, List.set_cons_succ])
    refine wpAnyH_take (i := 6) (v := ?_) rfl (by kernel_rfl) (by kernel_rfl) (by kernel_rfl) (fun _ _ _ h => h) (Or.inl ⟨by rfl, ?_⟩) (by assumption) ?_
    rotate_left
    · (intro w hSw; obtain ⟨⟨q0, q1⟩, q2⟩ := hSw; go_simp; (try with_reducible rfl))
    (try simp only [List.getElem_toArray, List.getElem_cons_zero, List.getElem_cons_succ, Act.put, List.setIfInBounds_toArray, List.set_cons_zero, List.set_cons_succ])
    refine wpAnyH_take (i := 7) (v := undef) rfl (by kernel_rfl) (by kernel_rfl) (by kernel_rfl) (fun _ _ _ h => h) (Or.inr ⟨by rfl, rfl⟩) (by assumption) ?_
    (try simp only [List.getElem_toArray, List.getElem_cons_zero, List.getElem_cons_succ, Act.put, List.setIfInBounds_toArray, List.set_cons_zero, List.set_cons_succ])
    refine wpAnyH_take (i := 8) (v := undef) rfl (by kernel_rfl) (by kernel_rfl) (by kernel_rfl) (fun _ _ _ h => h) (Or.inr ⟨by rfl, rfl⟩) (by assumption) ?_
    (try simp only [List.getElem_toArray, List.getElem_cons_zero, List.getElem_cons_succ, Act.put, List.setIfInBounds_toArray, List.set_cons_zero, List.set_cons_succ])
    refine wpAnyH_take (i := 9) (v := undef) rfl (by kernel_rfl) (by kernel_rfl) (by kernel_rfl) (fun _ _ _ h => h) (Or.inr ⟨by rfl, rfl⟩) (by assumption) ?_
    (try simp only [List.getElem_toArray, List.getElem_cons_zero, List.getElem_cons_succ, Act.put, List.setIfInBounds_toArray, List.set_cons_zero, List.set_cons_succ])
    refine wpAnyH_take (i := 10) (v := undef) rfl (by kernel_rfl) (by kernel_rfl) (by kernel_rfl) (fun _ _ _ h => h) (Or.inr ⟨by rfl, rfl⟩) (by assumption) ?_
    (try simp only [List.getElem_toArray, List.getElem_cons_zero, List.getElem_cons_succ, Act.put, List.setIfInBounds_toArray, List.set_cons_zero, List.set_cons_succ])
    refine wpAnyH_take (i := 11) (v := undef) rfl (by kernel_rfl) (by kernel_rfl) (by kernel_rfl) (fun _ _ _ h => h) (Or.inr ⟨by rfl, rfl⟩) (by assumption) ?_
    (try simp only [List.getElem_toArray, List.getElem_cons_zero, List.getElem_cons_succ, Act.put, List.setIfInBounds_toArray, List.set_cons_zero, List.set_cons_succ])
    refine wpAnyH_take (i := 12) (v := undef) rfl (by kernel_rfl) (by kernel_rfl) (by kernel_rfl) (fun _ _ _ h => h) (Or.inr ⟨by rfl, rfl⟩) (by assumption) ?_
    (try simp only [List.getElem_toArray, List.getElem_cons_zero, List.getElem_cons_succ, Act.put, List.setIfInBounds_toArray, List.set_cons_zero, List.set_cons_succ])
    refine wpAnyH_take (i := 13) (v := ?_) rfl (by kernel_rfl) (by kernel_rfl) (by kernel_rfl) (fun _ _ _ h => h) (Or.inl ⟨by rfl, ?_⟩) (by assumption) ?_
    rotate_left
    · (intro w hSw; obtain ⟨⟨q0, q1⟩, q2⟩ := hSw; go_simp; (try with_reducible rfl))
    (try simp only [List.getElem_toArray, List.getElem_cons_zero, List.getElem_cons_succ, Act.put, List.setIfInBounds_toArray, List.set_cons_zero, List.set_cons_succ])
    refine wpAnyH_take (i := 14) (v := ?_) rfl (by kernel_rfl) (by kernel_rfl) (by kernel_rfl) (fun _ _ _ h => h) (Or.inl ⟨by rfl, ?_⟩) (by assumption) ?_
    rotate_left
    · (intro w hSw; obtain ⟨⟨q0, q1⟩, q2⟩ := hSw; go_simp; (try with_reducible rfl))
    (try simp only [List.getElem_toArray, List.getElem_cons_zero, List.getElem_cons_succ, Act.put, List.setIfInBounds_toArray, List.set_cons_zero, List.set_cons_succ])
    refine wpAnyH_take (i := 15) (v := ?_) rfl (by kernel_rfl) (by kernel_rfl) (by kernel_rfl) (fun _ _ _ h => h) (Or.inl ⟨by rfl, ?_⟩) (by assumption) ?_
    rotate_left
    · (intro w hSw; obtain ⟨⟨q0, q1⟩, q2⟩ := hSw; go_simp; (try with_reducible rfl))
    (try simp only [List.getElem_toArray, List.getElem_cons_zero, List.getElem_cons_succ, Act.put, List.setIfInBounds_toArray, List.set_cons_zero, List.set_cons_succ])
    obtain ⟨⟨r0, r1, r2, r3, r4, r5, r6, r7, r8, r9⟩, t0, t1, t2, t3, t4, t5, t6, t7, t8, t9⟩ := out_cells K2.out.res
    refine wpAnyH_ready (rs := [16]) (by kernel_rfl) (by simp) ?_
    refine AllReadyH.cons rfl (fun K hK => ?_) AllReadyH.nil
    go_simp
    simp only [set_drewX]
    refine hK.out _ _ (show _ from ⟨txt_cells (setMany_far (B2.out.below hbz B2.out.lt) (fun e => LOW.out e.symm) [(0, .int .i64 (F : Nat)), (1, .string ⟨#[]⟩), (2, .slice none 0 0), (3, .string ⟨#[]⟩), (4, .slice none 0 0), (5, .string ⟨XS.toArray⟩), (6, .slice A3 xl.length c3), (7, .bool true), (8, .bool true), (9, .int .i64 (F : Nat))]), (si_cells (setMany_far (K2.out.step hbz).si LOWS.out [(0, .int .i64 (F : Nat)), (1, .string ⟨#[]⟩), (2, .slice none 0 0), (3, .string ⟨#[]⟩), (4, .slice none 0 0), (5, .string ⟨XS.toArray⟩), (6, .slice A3 xl.length c3), (7, .bool true), (8, .bool true), (9, .int .i64 (F : Nat))])).1.2.2.2⟩) (fun hHeld => ?_)
    clear hK K
    (try simp only [List.getElem_toArray, List.getElem_cons_zero, List.getElem_cons_succ, Act.put, List.setIfInBounds_toArray, List.set_cons_zero, List.set_cons_succ])
    refine wpAnyH_done (by kernel_rfl) ?_ _
    go_wp2_with fail
    (try simp only [set_drewX])
    exact end_out1 (A := none) (B := none) (C := A3) (c := 0) (d := 0) (k := c3) (S := []) (X := []) (R := XS) (l := []) (m := []) (q := xl) rfl _ T9.out.res noLab_out T9.out.bel (Nat.le_succ _) (.inl rfl) (.inl rfl) RC.out rfl rfl HV.out (fun _ _ h => h)
  | false =>
    refine wp_region_held_drew (S := fun w' => ((w'.cell? ⟨g9, 0, none⟩ = some (.string ⟨XS.toArray⟩) ∧ w'.cell? ⟨g9, 1, none⟩ = some (.slice A3 xl.length c3)) ∧ w'.cell? ⟨w.heap.size, 3, none⟩ = some (.string ⟨V.toArray⟩))) (by kernel_rfl) (KS.out _ hbz) (fun hHeld => ?_)
    refine wpAnyH_take (i := 0) (v := ?_) rfl (by kernel_rfl) (by kernel_rfl) (by kernel_rfl) (fun _ _ _ h => h) (Or.inl ⟨by rfl, ?_⟩) (by assumption) ?_
    rotate_left
    · (intro w hSw; obtain ⟨⟨q0, q1⟩, q2⟩ := hSw; go_simp; (try with_reducible rfl))
    (try simp only [List.getElem_toArray, List.getElem_cons_zero, Act.put, List.setIfInBounds_toArray, List.set_cons_zero, List.set_cons_succ])
    refine wpAnyH_take (i := 1) (v := ?_) rfl (by kernel_rfl) (by kernel_rfl) (by kernel_rfl) (fun _ _ _ h => h) (Or.inl ⟨by rfl, ?_⟩) (by assumption) ?_
    rotate_left
    · (intro w hSw; obtain ⟨⟨q0, q1⟩, q2⟩ := hSw; go_simp; (try with_reducible rfl))
    (try simp only [List.getElem_toArray, List.getElem_cons_zero, List.getElem_cons_succ, Act.put, List.setIfInBounds_toArray, List.set_cons_zero, List.set_cons_succ])
    refine wpAnyH_take (i := 2) (v := ?_) rfl (by kernel_rfl) (by kernel_rfl) (by kernel_rfl) (fun _ _ _ h => h) (Or.inl ⟨by rfl, ?_⟩) (by assumption) ?_
    rotate_left
    · (intro w hSw; obtain ⟨⟨q0, q1⟩, q2⟩ := hSw; go_simp; (try with_reducible rfl))
    (try simp only [List.getElem_toArray, List.getElem_cons_zero, List.getElem_cons_succ, Act.put, List.setIfInBounds_toArray, List.set_cons_zero, List.set_cons_succ])
    refine wpAnyH_take (i := 3) (v := ?_) rfl (by kernel_rfl) (by kernel_rfl) (by kernel_rfl) (fun _ _ _ h => h) (Or.inl ⟨by rfl, ?_⟩) (by assumption) ?_
    rotate_left
    · (intro w hSw; obtain ⟨⟨q0, q1⟩, q2⟩ := hSw; go_simp; (try with_reducible rfl))
    (try simp only [List.getElem_toArray, List.getElem_cons_zero, List.getElem_cons_succ, Act.put, List.setIfInBounds_toArray, List.set_cons_zero, List.set_cons_succ])
    refine wpAnyH_take (i := 4) (v := ?_) rfl (by kernel_rfl) (by kernel_rfl) (by kernel_rfl) (fun _ _ _ h => h) (Or.inl ⟨by rfl, ?_⟩) (by assumption) ?_
    rotate_left
    · (intro w hSw; obtain ⟨⟨q0, q1⟩, q2⟩ := hSw; go_simp; (try with_reducible rfl))
    (try simp only [List.getElem_toArray, List.getElem_cons_zero, List.getElem_cons_succ, Act.put, List.setIfInBounds_toArray, List.set_cons_zero, List.set_cons_succ])
    refine wpAnyH_take (i := 5) (v := ?_) rfl (by kernel_rfl) (by kernel_rfl) (by kernel_rfl) (fun _ _ _ h => h) (Or.inl ⟨by rfl, ?_⟩) (by assumption) ?_
    rotate_left
    · (intro w hSw; obtain ⟨⟨q0, q1⟩, q2⟩ := hSw; go_simp; (try with_reducible rfl))
    (try simp only [List.getElem_toArray, List.getElem_cons_zero, List.getElem_cons_succ, Act.put, List.setIfInBounds_toArray, List.set_cons_zero, List.set_cons_succ])
    refine wpAnyH_take (i := 6) (v := ?_) rfl (by kernel_rfl) (by kernel_rfl) (by kernel_rfl) (fun _ _ _ h => h) (Or.inl ⟨by rfl, ?_⟩) (by assumption) ?_
    rotate_left
    · (intro w hSw; obtain ⟨⟨q0, q1⟩, q2⟩ := hSw; go_simp; (try with_reducible rfl))
    (try simp only [List.getElem_toArray, List.getElem_cons_zero, List.getElem_cons_succ, Act.put, List.setIfInBounds_toArray, List.set_cons_zero, List.set_cons_succ])
    refine wpAnyH_take (i := 7) (v := ?_) rfl (by kernel_rfl) (by kernel_rfl) (by kernel_rfl) (fun _ _ _ h => h) (Or.inl ⟨by rfl, ?_⟩) (by assumption) ?_
    rotate_left
    · (intro w hSw; obtain ⟨⟨q0, q1⟩, q2⟩ := hSw; go_simp; (try with_reducible rfl))
    (try simp only [List.getElem_toArray, List.getElem_cons_zero, List.getElem_cons_succ, Act.put, List.setIfInBounds_toArray, List.set_cons_zero, List.set_cons_succ])
    refine wpAnyH_take (i := 8) (v := ?_) rfl (by kernel_rfl) (by kernel_rfl) (by kernel_rfl) (fun _ _ _ h => h) (Or.inl ⟨by rfl, ?_⟩) (by assumption) ?_
    rotate_left
    · (intro w hSw; obtain ⟨⟨q0, q1⟩, q2⟩ := hSw; go_simp; (try with_reducible rfl))
    (try simp only [List.getElem_toArray, List.getElem_cons_zero, List.getElem_cons_succ, Act.put, List.setIfInBounds_toArray, List.set_cons_zero, List.set_cons_succ])
    refine wpAnyH_take (i := 9) (v := ?_) rfl (by kernel_rfl) (by kernel_rfl) (by kernel_rfl) (fun _ _ _ h => h) (Or.inl ⟨by rfl, ?_⟩) (by assumption) ?_
    rotate_left
    · (intro w hSw; obtain ⟨⟨q0, q1⟩, q2⟩ := hSw; go_simp; (try with_reducible rfl))
    (try simp only [List.getElem_toArray, List.getElem_cons_zero, List.getElem_cons_succ, Act.put, List.setIfInBounds_toArray, List.set_cons_zero, List.set_cons_succ])
    refine wpAnyH_take (i := 10) (v := ?_) rfl (by kernel_rfl) (by kernel_rfl) (by kernel_rfl) (fun _ _ _ h => h) (Or.inl ⟨by rfl, ?_⟩) (by assumption) ?_
    rotate_left
    · (intro w hSw; obtain ⟨⟨q0, q1⟩, q2⟩ := hSw; go_simp; (try with_reducible rfl))
    (try simp only [List.getElem_toArray, List.getElem_cons_zero, List.getElem_cons_succ, Act.put, List.setIfInBounds_toArray, List.set_cons_zero, List.set_cons_succ])
    refine wpAnyH_take (i := 11) (v := ?_) rfl (by kernel_rfl) (by kernel_rfl) (by kernel_rfl) (fun _ _ _ h => h) (Or.inl ⟨by rfl, ?_⟩) (by assumption) ?_
    rotate_left
    · (intro w hSw; obtain ⟨⟨q0, q1⟩, q2⟩ := hSw; go_simp; (try with_reducible rfl))
    (try simp only [List.getElem_toArray, List.getElem_cons_zero, List.getElem_cons_succ, Act.put, List.setIfInBounds_toArray, List.set_cons_zero, List.set_cons_succ])
    refine wpAnyH_take (i := 14) (v := ?_) rfl (by kernel_rfl) (by kernel_rfl) (by kernel_rfl) (fun _ _ _ h => h) (Or.inl ⟨by rfl, ?_⟩) (by assumption) ?_
    rotate_left
    · (intro w hSw; obtain ⟨⟨q0, q1⟩, q2⟩ := hSw; go_simp; (try with_reducible rfl))
    (try simp only [List.getElem_toArray, List.getElem_cons_zero, List.getElem_cons_succ, Act.put, List.setIfInBounds_toArray, List.set_cons_zero, List.set_cons_succ])
    refine wpAnyH_ready (rs := [12]) (by kernel_rfl) (by simp) ?_
    refine AllReadyH.cons rfl (fun K hK => ?_) AllReadyH.nil
    go_simp
    rw [HSL.out]
    refine (HC.out _).mono ?_
    rintro ee w9 ⟨rfl, hw9⟩
    subst hw9
    (try go_wp2_with fail)
    refine hK.out _ _ (KS.out _ hbz) (fun hHeld => ?_)
    clear hK K
    (try simp only [List.getElem_toArray, List.getElem_cons_zero, List.getElem_cons_succ, Act.put, List.setIfInBounds_toArray, List.set_cons_zero, List.set_cons_succ])
    refine wpAnyH_take (i := 13) (v := ?_) rfl (by kernel_rfl) (by kernel_rfl) (by kernel_rfl) (fun _ _ _ h => h) (Or.inl ⟨by rfl, ?_⟩) (by assumption) ?_
    rotate_left
    · (intro w hSw; obtain ⟨⟨q0, q1⟩, q2⟩ := hSw; go_simp; (try with_reducible rfl))
    (try simp only [List.getElem_toArray, List.getElem_cons_zero, List.getElem_cons_succ, Act.put, List.setIfInBounds_toArray, List.set_cons_zero, List.set_cons_succ])
    refine wpAnyH_take (i := 15) (v := ?_) rfl (by kernel_rfl) (by kernel_rfl) (by kernel_rfl) (fun _ _ _ h => h) (Or.inl ⟨by rfl, ?_⟩) (by assumption) ?_
    rotate_left
    · (intro w hSw; obtain ⟨⟨q0, q1⟩, q2⟩ := hSw; go_simp; (try with_reducible rfl))
    (try simp only [List.getElem_toArray, List.getElem_cons_zero, List.getElem_cons_succ, Act.put, List.setIfInBounds_toArray, List.set_cons_zero, List.set_cons_succ])
    obtain ⟨⟨r0, r1, r2, r3, r4, r5, r6, r7, r8, r9⟩, t0, t1, t2, t3, t4, t5, t6, t7, t8, t9⟩ := out_cells K2.out.res
    refine wpAnyH_ready (rs := [16]) (by kernel_rfl) (by simp) ?_
    refine AllReadyH.cons rfl (fun K hK => ?_) AllReadyH.nil
    go_simp
    simp only [set_drewX]
    refine hK.out _ _ (show _ from ⟨txt_cells (setMany_far (B2.out.below hbz B2.out.lt) (fun e => LOW.out e.symm) [(0, .int .i64 (F : Nat)), (1, .string ⟨#[]⟩), (2, .slice none 0 0), (3, .string ⟨#[]⟩), (4, .slice none 0 0), (5, .string ⟨XS.toArray⟩), (6, .slice A3 xl.length c3), (7, .bool false), (8, .bool nd), (9, .int .i64 (F : Nat))]), (si_cells (setMany_far (K2.out.step hbz).si LOWS.out [(0, .int .i64 (F : Nat)), (1, .string ⟨#[]⟩), (2, .slice none 0 0), (3, .string ⟨#[]⟩), (4, .slice none 0 0), (5, .string ⟨XS.toArray⟩), (6, .slice A3 xl.length c3), (7, .bool false), (8, .bool nd), (9, .int .i64 (F : Nat))])).1.2.2.2⟩) (fun hHeld => ?_)
    clear hK K
    (try simp only [List.getElem_toArray, List.getElem_cons_zero, List.getElem_cons_succ, Act.put, List.setIfInBounds_toArray, List.set_cons_zero, List.set_cons_succ])
    refine wpAnyH_done (by kernel_rfl) ?_ _
    go_wp2_with fail
    (try simp only [set_drewX])
    exact end_out1 (A := none) (B := none) (C := A3) (c := 0) (d := 0) (k := c3) (S := []) (X := []) (R := XS) (l := []) (m := []) (q := xl) rfl _ T9.out.res noLab_out T9.out.bel (Nat.le_succ _) (.inl rfl) (.inl rfl) RC.out rfl rfl HV.out (fun _ _ h => h)
end Go.Proofs.YtgpmfkedcoiopaaGreatDoor

/-
  The landed take: layer 14.
-/
namespace Go.Proofs.YtgpmfkedcoiopaaGreatDoor
open Go.RowKit
set_option maxRecDepth 100000

/-- delete some bytes, beside what is yanked -/
def takM (S : List UInt8) (l : List RunP) (y F E : Nat) (o : OutP) : OutP × Nat :=
  if (turnedM S l y (F : Nat) (E : Nat) [] [] true).2 = 0 then (⟨(turnedM S l y (F : Nat) (E : Nat) [] [] true).1.1, o.RS, o.rl, o.lines, o.wide, o.at_⟩, 0) else (out0, (turnedM S l y (F : Nat) (E : Nat) [] [] true).2)
set_option maxHeartbeats 8000000 in
theorem oxTake_any (A B0 C0 D0 : Option Addr) (c b0 c0 d0 : Nat) (S : List UInt8) (l : List RunP) (y : Nat) (hy : y < 18446744073709551616) (V : List UInt8) (F E : Nat) (o : OutP) (w : World) (h : Txu w A S l) (hD : Row w w.heap.size D0 (flatR o.rl)) :
    Calls Tryz.prog 52 #[.agg #[.string ⟨S.toArray⟩, .slice A l.length c, .int .u64 (y : Nat), .string ⟨V.toArray⟩], .int .i64 (F : Nat), .int .i64 (E : Nat), .agg #[.int .i64 o.E.a, .string ⟨o.E.S.toArray⟩, .slice B0 o.E.l.length b0, .string ⟨o.E.X.toArray⟩, .slice C0 o.E.m.length c0, .string ⟨o.RS.toArray⟩, .slice D0 o.rl.length d0, .bool o.lines, .bool o.wide, .int .i64 o.at_]] w (GivesO w (takM S l y F E o)) := by
  obtain ⟨v, hv⟩ : ∃ v, takM S l y F E o = v := ⟨_, rfl⟩
  rw [hv]
  unfold takM at hv
  obtain ⟨tm, htm⟩ : ∃ tm, turnedM S l y (F : Nat) (E : Nat) [] [] true = tm := ⟨_, rfl⟩
  rw [htm] at hv
  have HTM := Lib.hid htm
  have HV := Lib.hid hv
  clear htm hv
  obtain ⟨⟨⟨a, ES, el, EX, em⟩, W⟩, n⟩ := tm
  obtain ⟨⟨oa, oS, ol, oX, om⟩, RS, rl, bl, bw, z⟩ := o
  dsimp only at HV hD ⊢
  obtain ⟨k0, kB⟩ := SiK.start3 (c := c) (y := y) (V := V) h 43 #[.int .i64 oa, .string ⟨oS.toArray⟩, .slice B0 ol.length b0, .string ⟨oX.toArray⟩, .slice C0 om.length c0, .string ⟨RS.toArray⟩, .slice D0 rl.length d0, .bool bl, .bool bw, .int .i64 z]
  have K0 := Lib.hid k0
  have KB := Lib.hid kB
  have RD := Lib.hid (row_step hD (((Below.refl _ w).alloc (Nat.le_refl _) (.cells #[.string ⟨S.toArray⟩, .slice A l.length c, .int .u64 (y : Nat), .string ⟨V.toArray⟩] 89)).alloc (by simp) (.cells #[.int .i64 oa, .string ⟨oS.toArray⟩, .slice B0 ol.length b0, .string ⟨oX.toArray⟩, .slice C0 om.length c0, .string ⟨RS.toArray⟩, .slice D0 rl.length d0, .bool bl, .bool bw, .int .i64 z] 43) |>.alloc (by simp; omega) (.cells #[.int .i64 0, .string ⟨#[]⟩, .slice none 0 0, .string ⟨#[]⟩, .slice none 0 0, .string ⟨#[]⟩, .slice none 0 0, .bool false, .bool false, .int .i64 0] 43)))
  clear k0 kB h hD
  go_enter Tryz.func52, Tryz.ntmps52
  go_upto_region 1 with fail
  generalize ((w.alloc (.cells #[.string ⟨S.toArray⟩, .slice A l.length c, .int .u64 (y : Nat), .string ⟨V.toArray⟩] 89)).alloc (.cells #[.int .i64 oa, .string ⟨oS.toArray⟩, .slice B0 ol.length b0, .string ⟨oX.toArray⟩, .slice C0 om.length c0, .string ⟨RS.toArray⟩, .slice D0 rl.length d0, .bool bl, .bool bw, .int .i64 z] 43)).alloc (.cells #[.int .i64 0, .string ⟨#[]⟩, .slice none 0 0, .string ⟨#[]⟩, .slice none 0 0, .string ⟨#[]⟩, .slice none 0 0, .bool false, .bool false, .int .i64 0] 43) = wx at *
  obtain ⟨⟨y0, y1, y2, y3⟩, _⟩ := si_cells K0.out.si
  go_upto_region 2 with (go_at_call 69; refine (oxRepl_any A none c 0 S l y hy V (F : Nat) (E : Nat) [] [] (by simp) _ K0.out.tS txu_nil).mono ?_; rw [HTM.out]; rintro ee w3 ⟨A4, c4, B4, d4, rfl, rA, rB, bb⟩; dsimp only at rA rB ⊢; have T3 := Lib.hid ((K0.out.step bb).alloc (.cells #[.int .i64 a, .string ⟨ES.toArray⟩, .slice A4 el.length c4, .string ⟨EX.toArray⟩, .slice B4 em.length d4] 41)); have KB3 := Lib.hid ((KB.out.below bb KB.out.lt).alloc (.cells #[.int .i64 a, .string ⟨ES.toArray⟩, .slice A4 el.length c4, .string ⟨EX.toArray⟩, .slice B4 em.length d4] 41)); have RD3 := Lib.hid (row_step (row_step RD.out bb) ((Below.refl _ _).alloc (Nat.le_refl _) (.cells #[.int .i64 a, .string ⟨ES.toArray⟩, .slice A4 el.length c4, .string ⟨EX.toArray⟩, .slice B4 em.length d4] 41))); have RA := Lib.hid (row_step rA ((Below.refl _ _).alloc (Nat.le_refl _) (.cells #[.int .i64 a, .string ⟨ES.toArray⟩, .slice A4 el.length c4, .string ⟨EX.toArray⟩, .slice B4 em.length d4] 41))); have RB := Lib.hid (row_step rB ((Below.refl _ _).alloc (Nat.le_refl _) (.cells #[.int .i64 a, .string ⟨ES.toArray⟩, .slice A4 el.length c4, .string ⟨EX.toArray⟩, .slice B4 em.length d4] 41))); have V3 := Lib.hid (Blk.new w3 41 #[.int .i64 a, .string ⟨ES.toArray⟩, .slice A4 el.length c4, .string ⟨EX.toArray⟩, .slice B4 em.length d4]); have N3 : Hid (w.heap.size + 1 ≠ w3.heap.size) := Nat.ne_of_lt (KB.out.below bb KB.out.lt).lt; clear rA rB bb y0 y1 y2 y3)
  generalize hg10 : w3.heap.size = g10 at *
  generalize w3.alloc (.cells #[.int .i64 a, .string ⟨ES.toArray⟩, .slice A4 el.length c4, .string ⟨EX.toArray⟩, .slice B4 em.length d4] 41) = w4 at *
  clear hg10 K0 KB RD
  by_cases hn : n = 0
  · subst hn
    have HV2 := Lib.hid ((if_pos rfl).symm.trans HV.out)
    obtain ⟨e0, e1, e2, e3, e4⟩ := ed_cells V3.out
    obtain ⟨⟨q0, q1, q2, q3, q4, q5, q6, q7, q8, q9⟩, p0, p1, p2, p3, p4, p5, p6, p7, p8, p9⟩ := out_cells KB3.out
    go_upto_region 5 with fail
    have KB5 : Hid (Blk (setMany w4 (w.heap.size + 1) [(0, .int .i64 a), (1, .string ⟨ES.toArray⟩), (2, .slice A4 el.length c4), (3, .string ⟨EX.toArray⟩), (4, .slice B4 em.length d4)]) (w.heap.size + 1) 43 #[.int .i64 a, .string ⟨ES.toArray⟩, .slice A4 el.length c4, .string ⟨EX.toArray⟩, .slice B4 em.length d4, .string ⟨RS.toArray⟩, .slice D0 rl.length d0, .bool bl, .bool bw, .int .i64 z]) := out_five KB3.out _ _ _ _ _
    have R5 : Hid (Blk (setMany w4 (w.heap.size + 1) [(0, .int .i64 a), (1, .string ⟨ES.toArray⟩), (2, .slice A4 el.length c4), (3, .string ⟨EX.toArray⟩), (4, .slice B4 em.length d4)]) (w.heap.size + 1 + 1) 43 #[.int .i64 0, .string ⟨#[]⟩, .slice none 0 0, .string ⟨#[]⟩, .slice none 0 0, .string ⟨#[]⟩, .slice none 0 0, .bool false, .bool false, .int .i64 0]) := setMany_far T3.out.res (by omega) _
    have L5 : Hid (Below w.heap.size w (setMany w4 (w.heap.size + 1) [(0, .int .i64 a), (1, .string ⟨ES.toArray⟩), (2, .slice A4 el.length c4), (3, .string ⟨EX.toArray⟩), (4, .slice B4 em.length d4)])) := setMany_below T3.out.bel (by omega) _
    have RA5 := Lib.hid (row_many RA.out KB3.out noLab_out [(0, .int .i64 a), (1, .string ⟨ES.toArray⟩), (2, .slice A4 el.length c4), (3, .string ⟨EX.toArray⟩), (4, .slice B4 em.length d4)])
    have RB5 := Lib.hid (row_many RB.out KB3.out noLab_out [(0, .int .i64 a), (1, .string ⟨ES.toArray⟩), (2, .slice A4 el.length c4), (3, .string ⟨EX.toArray⟩), (4, .slice B4 em.length d4)])
    have RD5 := Lib.hid (row_many RD3.out KB3.out noLab_out [(0, .int .i64 a), (1, .string ⟨ES.toArray⟩), (2, .slice A4 el.length c4), (3, .string ⟨EX.toArray⟩), (4, .slice B4 em.length d4)])
    change Code.wp _ _ _ _ (setMany w4 (w.heap.size + 1) [(0, .int .i64 a), (1, .string ⟨ES.toArray⟩), (2, .slice A4 el.length c4), (3, .string ⟨EX.toArray⟩), (4, .slice B4 em.length d4)])
    generalize setMany w4 (w.heap.size + 1) [(0, .int .i64 a), (1, .string ⟨ES.toArray⟩), (2, .slice A4 el.length c4), (3, .string ⟨EX.toArray⟩), (4, .slice B4 em.length d4)] = w5 at *
    clear q0 q1 q2 q3 q4 q5 q6 q7 q8 q9 p0 p1 p2 p3 p4 p5 p6 p7 p8 p9 e0 e1 e2 e3 e4 T3 KB3 RA RB RD3 V3
    obtain ⟨⟨r0, r1, r2, r3, r4, r5, r6, r7, r8, r9⟩, t0, t1, t2, t3, t4, t5, t6, t7, t8, t9⟩ := out_cells R5.out
    obtain ⟨⟨q0, q1, q2, q3, q4, q5, q6, q7, q8, q9⟩, _⟩ := out_cells KB5.out
    go_wp2_with fail
    exact end_out (A := A4) (B := B4) (C := D0) (l := el) (m := em) (q := rl) rfl _ R5.out noLab_out L5.out (by omega) RA5.out RB5.out RD5.out rfl rfl rfl HV2.out (fun _ _ h => h)
  · have HV2 := Lib.hid ((if_neg hn).symm.trans HV.out)
    have hn2 : ((n : Int) != 0) = true := by rw [bne_iff_ne]; omega
    obtain ⟨⟨r0, r1, r2, r3, r4, r5, r6, r7, r8, r9⟩, t0, t1, t2, t3, t4, t5, t6, t7, t8, t9⟩ := out_cells T3.out.res
    go_wp2_with fail
    exact end_zero rfl _ T3.out.res noLab_out T3.out.bel (by omega) rfl rfl rfl HV2.out (fun _ _ h => h)
end Go.Proofs.YtgpmfkedcoiopaaGreatDoor

/-
  The landed remove: d: layer 14.
-/
namespace Go.Proofs.YtgpmfkedcoiopaaGreatDoor
open Go.RowKit
set_option maxRecDepth 100000

/-- d of whole lines -/
def remL (S : List UInt8) (l : List RunP) (V : List UInt8) (y F E : Nat) (f t : Int) : OutP :=
  ⟨(turnedM S l y (wholeL V f t).1.1 (wholeL V f t).1.2 [] [] true).1.1, (cutOf S l F E).1.1, (cutOf S l F E).1.2, true, true, (firstL (turnedM S l y (wholeL V f t).1.1 (wholeL V f t).1.2 [] [] true).1.2 f : Nat)⟩
set_option maxHeartbeats 4000000 in
theorem oxRemoveF_any (A : Option Addr) (c : Nat) (S : List UInt8) (l : List RunP) (y : Nat) (hy : y < 18446744073709551616) (V : List UInt8) (F E : Nat) (hFE : F ≤ E) (hE : E ≤ V.length) (hV : V.length ≤ 4096) (f t : Int) (w : World) (h : Txu w A S l) :
    Calls Tryz.prog 51 #[.agg #[.string ⟨S.toArray⟩, .slice A l.length c, .int .u64 (y : Nat), .string ⟨V.toArray⟩], .int .i64 (F : Nat), .int .i64 (E : Nat), .agg #[.int .i64 f, .int .i64 t, .bool false]] w (GivesO w (takM S l y F E (yankM S l V F E false))) := by
  obtain ⟨v, hv⟩ : ∃ v, takM S l y F E (yankM S l V F E false) = v := ⟨_, rfl⟩
  rw [hv]
  have HV := Lib.hid hv
  clear hv
  have HYA := Lib.hid (fun wx (hx : Txu wx A S l) => oxYank_any A c S l y V F E hFE hE hV false wx hx)
  have HTA := Lib.hid (fun wx (hx : Txu wx A S l) B0 b0 C0 c0 D0 d0 => oxTake_any A B0 C0 D0 c b0 c0 d0 S l y hy V F E (yankM S l V F E false) wx hx)
  generalize yankM S l V F E false = o at *
  obtain ⟨k0, kB⟩ := SiK.start3 (c := c) (y := y) (V := V) h 25 #[.int .i64 f, .int .i64 t, .bool false]
  have K0 := Lib.hid k0
  have KB := Lib.hid kB
  clear k0 kB h
  go_enter Tryz.func51, Tryz.ntmps51
  go_upto_region 1 with fail
  generalize ((w.alloc (.cells #[.string ⟨S.toArray⟩, .slice A l.length c, .int .u64 (y : Nat), .string ⟨V.toArray⟩] 89)).alloc (.cells #[.int .i64 f, .int .i64 t, .bool false] 25)).alloc (.cells #[.int .i64 0, .string ⟨#[]⟩, .slice none 0 0, .string ⟨#[]⟩, .slice none 0 0, .string ⟨#[]⟩, .slice none 0 0, .bool false, .bool false, .int .i64 0] 43) = wx at *
  obtain ⟨⟨y0, y1, y2, y3⟩, _⟩ := si_cells K0.out.si
  obtain ⟨⟨z0, z1, z2, _⟩, _⟩ := rng_var KB.out
  obtain ⟨⟨oa, oS, ol, oX, om⟩, RS, rl, bl, bw, z⟩ := o
  go_upto_region 2 with (go_at_call 50; refine (HYA.out _ K0.out.tS).mono ?_; rintro e w2 ⟨A3, c3, B3, d3, C3, e3, rfl, rA, rB, rC, bb⟩; dsimp only at rA rB rC ⊢; have K2 := Lib.hid ((K0.out.step bb).alloc (.cells #[.int .i64 oa, .string ⟨oS.toArray⟩, .slice A3 ol.length c3, .string ⟨oX.toArray⟩, .slice B3 om.length d3, .string ⟨RS.toArray⟩, .slice C3 rl.length e3, .bool bl, .bool bw, .int .i64 z] 43)); have KB2 := Lib.hid ((KB.out.below bb KB.out.lt).alloc (.cells #[.int .i64 oa, .string ⟨oS.toArray⟩, .slice A3 ol.length c3, .string ⟨oX.toArray⟩, .slice B3 om.length d3, .string ⟨RS.toArray⟩, .slice C3 rl.length e3, .bool bl, .bool bw, .int .i64 z] 43)); have RC := Lib.hid (row_step rC ((Below.refl _ _).alloc (Nat.le_refl _) (.cells #[.int .i64 oa, .string ⟨oS.toArray⟩, .slice A3 ol.length c3, .string ⟨oX.toArray⟩, .slice B3 om.length d3, .string ⟨RS.toArray⟩, .slice C3 rl.length e3, .bool bl, .bool bw, .int .i64 z] 43))); have O2 := Lib.hid (Blk.new w2 43 #[.int .i64 oa, .string ⟨oS.toArray⟩, .slice A3 ol.length c3, .string ⟨oX.toArray⟩, .slice B3 om.length d3, .string ⟨RS.toArray⟩, .slice C3 rl.length e3, .bool bl, .bool bw, .int .i64 z]); clear y0 y1 y2 y3 z0 z1 z2 rA rB rC bb)
  generalize hg10 : w2.heap.size = g10 at *
  generalize w2.alloc (.cells #[.int .i64 oa, .string ⟨oS.toArray⟩, .slice A3 ol.length c3, .string ⟨oX.toArray⟩, .slice B3 om.length d3, .string ⟨RS.toArray⟩, .slice C3 rl.length e3, .bool bl, .bool bw, .int .i64 z] 43) = w3 at *
  clear hg10 K0 KB HYA
  obtain ⟨⟨y0, y1, y2, y3⟩, _⟩ := si_cells K2.out.si
  obtain ⟨⟨z0, z1, z2, _⟩, _⟩ := rng_var KB2.out
  obtain ⟨⟨q0, q1, q2, q3, q4, q5, q6, q7, q8, q9⟩, _⟩ := out_cells O2.out
  go_wp2_with (go_at_call 52; refine (HTA.out _ K2.out.tS A3 c3 B3 d3 C3 e3 RC.out).mono ?_; rw [HV.out]; rintro e w5 ⟨A5, c5, B5, d5, C5, e5, rfl, rA5, rB5, rC5, b5⟩; have K5 := Lib.hid (K2.out.step b5); obtain ⟨⟨r0, r1, r2, r3, r4, r5, r6, r7, r8, r9⟩, t0, t1, t2, t3, t4, t5, t6, t7, t8, t9⟩ := out_cells K5.out.res)
  obtain ⟨⟨⟨va, vS, vl, vX, vm⟩, vR, vq, vb, vw, vz⟩, vn⟩ := v
  exact end_out rfl _ K5.out.res noLab_out K5.out.bel (by omega) rA5 rB5 rC5 rfl rfl rfl rfl (fun _ _ h => h)
set_option maxHeartbeats 8000000 in
theorem oxRemoveL_any (A : Option Addr) (c : Nat) (S : List UInt8) (l : List RunP) (y : Nat) (hy : y < 18446744073709551616) (V : List UInt8) (hg : goodT S l = true) (hVS : V.length = S.length) (F E : Nat) (hFE : F ≤ E) (hE : E ≤ V.length) (hV : V.length ≤ 4096) (f t : Int) (hr : 0 ≤ f ∧ f ≤ t ∧ t < (countL V : Int)) (w : World) (h : Txu w A S l) :
    Calls Tryz.prog 51 #[.agg #[.string ⟨S.toArray⟩, .slice A l.length c, .int .u64 (y : Nat), .string ⟨V.toArray⟩], .int .i64 (F : Nat), .int .i64 (E : Nat), .agg #[.int .i64 f, .int .i64 t, .bool true]] w (GivesO w (remL S l V y F E f t, 0)) := by
  obtain ⟨v, hv⟩ : ∃ v, remL S l V y F E f t = v := ⟨_, rfl⟩
  rw [hv]
  unfold remL at hv
  have HYA := Lib.hid (fun wx (hx : Txu wx A S l) => oxYank_any A c S l y V F E hFE hE hV true wx hx)
  unfold yankM at HYA
  have HW := Lib.hid (fun wx => linWhole_any V (by omega) f t wx)
  obtain ⟨i, rfl⟩ : ∃ i : Nat, f = i := ⟨f.toNat, by omega⟩
  obtain ⟨j, rfl⟩ : ∃ j : Nat, t = j := ⟨t.toNat, by omega⟩
  have hin := whole_in (V := V) (i := i) (j := j) (by omega) (by omega)
  have h0 : (wholeL V i j).2 = 0 := by rw [wholeL_good hr]; split <;> (try split) <;> rfl
  obtain ⟨wh, hwh⟩ : ∃ wh, wholeL V i j = wh := ⟨_, rfl⟩
  rw [hwh] at hin h0 hv HW
  obtain ⟨⟨W1, W2⟩, wn⟩ := wh
  dsimp only at hin h0 hv
  subst h0
  have hdel := turned_del hg hin.1 (by omega) y
  obtain ⟨tm, htm⟩ : ∃ tm, turnedM S l y (W1 : Nat) (W2 : Nat) [] [] true = tm := ⟨_, rfl⟩
  rw [htm] at hdel hv
  have hvl := turned_view S l y (W1 : Nat) (W2 : Nat) [] [] true
  rw [htm] at hvl
  have HTM := Lib.hid htm
  obtain ⟨⟨⟨a, ES, el, EX, em⟩, WV⟩, n⟩ := tm
  dsimp only at hdel hv hvl
  subst hdel
  have HFI := Lib.hid (fun wx => linFirst_any WV (by omega) (i : Nat) wx)
  obtain ⟨fi, hfi⟩ : ∃ fi, firstL WV (i : Nat) = fi := ⟨_, rfl⟩
  rw [hfi] at hv HFI
  obtain ⟨x, hx⟩ : ∃ x, cutOf S l (F : Nat) (E : Nat) = x := ⟨_, rfl⟩
  rw [hx] at hv HYA
  obtain ⟨⟨XS, xl⟩, xn⟩ := x
  rw [Bool.true_or] at HYA
  have HV := Lib.hid hv
  clear hv hwh htm hfi hx
  dsimp only at HV HYA
  obtain ⟨k0, kB⟩ := SiK.start3 (c := c) (y := y) (V := V) h 25 #[.int .i64 (i : Nat), .int .i64 (j : Nat), .bool true]
  have K0 := Lib.hid k0
  have KB := Lib.hid kB
  clear k0 kB h
  go_enter Tryz.func51, Tryz.ntmps51
  go_upto_region 1 with fail
  generalize ((w.alloc (.cells #[.string ⟨S.toArray⟩, .slice A l.length c, .int .u64 (y : Nat), .string ⟨V.toArray⟩] 89)).alloc (.cells #[.int .i64 (i : Nat), .int .i64 (j : Nat), .bool true] 25)).alloc (.cells #[.int .i64 0, .string ⟨#[]⟩, .slice none 0 0, .string ⟨#[]⟩, .slice none 0 0, .string ⟨#[]⟩, .slice none 0 0, .bool false, .bool false, .int .i64 0] 43) = wx at *
  obtain ⟨⟨y0, y1, y2, y3⟩, _⟩ := si_cells K0.out.si
  obtain ⟨⟨z0, z1, z2, _⟩, _⟩ := rng_var KB.out
  go_upto_region 2 with (go_at_call 50; refine (HYA.out _ K0.out.tS).mono ?_; rintro e w2 ⟨A3, c3, B3, d3, C3, e3, rfl, rA, rB, rC, bb⟩; dsimp only at rA rB rC ⊢; have K2 := Lib.hid ((K0.out.step bb).alloc (.cells #[.int .i64 (F : Nat), .string ⟨[].toArray⟩, .slice A3 ([] : List RunP).length c3, .string ⟨[].toArray⟩, .slice B3 ([] : List RunP).length d3, .string ⟨XS.toArray⟩, .slice C3 xl.length e3, .bool true, .bool true, .int .i64 (F : Nat)] 43)); have KB2 := Lib.hid ((KB.out.below bb KB.out.lt).alloc (.cells #[.int .i64 (F : Nat), .string ⟨[].toArray⟩, .slice A3 ([] : List RunP).length c3, .string ⟨[].toArray⟩, .slice B3 ([] : List RunP).length d3, .string ⟨XS.toArray⟩, .slice C3 xl.length e3, .bool true, .bool true, .int .i64 (F : Nat)] 43)); have RC := Lib.hid (row_step rC ((Below.refl _ _).alloc (Nat.le_refl _) (.cells #[.int .i64 (F : Nat), .string ⟨[].toArray⟩, .slice A3 ([] : List RunP).length c3, .string ⟨[].toArray⟩, .slice B3 ([] : List RunP).length d3, .string ⟨XS.toArray⟩, .slice C3 xl.length e3, .bool true, .bool true, .int .i64 (F : Nat)] 43))); have O2 := Lib.hid (Blk.new w2 43 #[.int .i64 (F : Nat), .string ⟨[].toArray⟩, .slice A3 ([] : List RunP).length c3, .string ⟨[].toArray⟩, .slice B3 ([] : List RunP).length d3, .string ⟨XS.toArray⟩, .slice C3 xl.length e3, .bool true, .bool true, .int .i64 (F : Nat)]); have LOW : Hid (w.heap.size + 1 + 1 < w2.heap.size) := (K0.out.step bb).res.lt; clear y0 y1 y2 y3 z0 z1 z2 rA rB rC bb)
  generalize hg10 : w2.heap.size = g10 at *
  generalize w2.alloc (.cells _ 43) = w3 at *
  clear hg10 K0 KB HYA
  obtain ⟨⟨y0, y1, y2, y3⟩, _⟩ := si_cells K2.out.si
  obtain ⟨⟨z0, z1, z2, _⟩, _⟩ := rng_var KB2.out
  go_upto_region 7 with (go_at_call 101; refine (HW.out _).mono ?_; rintro e w4 ⟨rfl, b4⟩; have K4 := Lib.hid (K2.out.step b4); have KB4 := Lib.hid (KB2.out.below b4 KB2.out.lt); have RC4 := Lib.hid (row_step RC.out b4); have O4 := Lib.hid (O2.out.below b4 O2.out.lt); clear y0 y1 y2 y3 z0 z1 z2 b4)
  clear K2 KB2 RC O2
  obtain ⟨⟨y0, y1, y2, y3⟩, _⟩ := si_cells K4.out.si
  go_upto_region 8 with (go_at_call 69; refine (oxRepl_any A none c 0 S l y hy V (W1 : Nat) (W2 : Nat) [] [] (by simp) _ K4.out.tS txu_nil).mono ?_; rw [HTM.out]; rintro ee w6 ⟨A4, c4, B4, d4, rfl, rA, rB, bb⟩; dsimp only at rA rB ⊢; have K6 := Lib.hid ((K4.out.step bb).alloc (.cells #[.int .i64 a, .string ⟨ES.toArray⟩, .slice A4 el.length c4, .string ⟨EX.toArray⟩, .slice B4 em.length d4] 41)); have KB6 := Lib.hid ((KB4.out.below bb KB4.out.lt).alloc (.cells #[.int .i64 a, .string ⟨ES.toArray⟩, .slice A4 el.length c4, .string ⟨EX.toArray⟩, .slice B4 em.length d4] 41)); have O6 := Lib.hid ((O4.out.below bb O4.out.lt).alloc (.cells #[.int .i64 a, .string ⟨ES.toArray⟩, .slice A4 el.length c4, .string ⟨EX.toArray⟩, .slice B4 em.length d4] 41)); have RC6 := Lib.hid (row_step (row_step RC4.out bb) ((Below.refl _ _).alloc (Nat.le_refl _) (.cells #[.int .i64 a, .string ⟨ES.toArray⟩, .slice A4 el.length c4, .string ⟨EX.toArray⟩, .slice B4 em.length d4] 41))); have RA := Lib.hid (row_step rA ((Below.refl _ _).alloc (Nat.le_refl _) (.cells #[.int .i64 a, .string ⟨ES.toArray⟩, .slice A4 el.length c4, .string ⟨EX.toArray⟩, .slice B4 em.length d4] 41))); have RB := Lib.hid (row_step rB ((Below.refl _ _).alloc (Nat.le_refl _) (.cells #[.int .i64 a, .string ⟨ES.toArray⟩, .slice A4 el.length c4, .string ⟨EX.toArray⟩, .slice B4 em.length d4] 41))); have V6 := Lib.hid (Blk.new w6 41 #[.int .i64 a, .string ⟨ES.toArray⟩, .slice A4 el.length c4, .string ⟨EX.toArray⟩, .slice B4 em.length d4]); have N6 : Hid (g10 < w6.heap.size) := (O4.out.below bb O4.out.lt).lt; clear rA rB bb y0 y1 y2 y3)
  generalize hg12 : w6.heap.size = g12 at *
  generalize w6.alloc (.cells #[.int .i64 a, .string ⟨ES.toArray⟩, .slice A4 el.length c4, .string ⟨EX.toArray⟩, .slice B4 em.length d4] 41) = wb at *
  clear hg12 K4 KB4 RC4 O4
  go_upto_region 10 with fail
  go_cut [10] (fun s10 wx => s10 = .pointer (some ⟨g10, 0, none⟩) ∧ Blk wx g10 43 #[.int .i64 a, .string ⟨ES.toArray⟩, .slice A4 el.length c4, .string ⟨EX.toArray⟩, .slice B4 em.length d4, .string ⟨XS.toArray⟩, .slice C3 xl.length e3, .bool true, .bool true, .int .i64 (fi : Nat)] ∧ Blk wx (w.heap.size + 1 + 1) 43 #[.int .i64 0, .string ⟨#[]⟩, .slice none 0 0, .string ⟨#[]⟩, .slice none 0 0, .string ⟨#[]⟩, .slice none 0 0, .bool false, .bool false, .int .i64 0] ∧ Below w.heap.size w wx ∧ Row wx wx.heap.size A4 (flatR el) ∧ Row wx wx.heap.size B4 (flatR em) ∧ Row wx wx.heap.size C3 (flatR xl))
  case first =>
    have hb0 : Below wb.heap.size wb wb := Below.refl _ _
    have hbz : Below wb.heap.size wb wb.drew := below_drewN hb0 1
    have KS : Hid (∀ w', Below wb.heap.size wb w' → ((w'.cell? ⟨g12, 0, none⟩ = some (.int .i64 a) ∧ w'.cell? ⟨g12, 1, none⟩ = some (.string ⟨ES.toArray⟩) ∧ w'.cell? ⟨g12, 2, none⟩ = some (.slice A4 el.length c4) ∧ w'.cell? ⟨g12, 3, none⟩ = some (.string ⟨EX.toArray⟩) ∧ w'.cell? ⟨g12, 4, none⟩ = some (.slice B4 em.length d4)) ∧ w'.cell? ⟨w.heap.size + 1, 0, none⟩ = some (.int .i64 (i : Nat)))) := fun w' hb => ⟨ed_cells (V6.out.below hb V6.out.lt), (rng_var (KB6.out.below hb KB6.out.lt)).1.1⟩
    refine wp_region_held_drew (S := fun w' => ((w'.cell? ⟨g12, 0, none⟩ = some (.int .i64 a) ∧ w'.cell? ⟨g12, 1, none⟩ = some (.string ⟨ES.toArray⟩) ∧ w'.cell? ⟨g12, 2, none⟩ = some (.slice A4 el.length c4) ∧ w'.cell? ⟨g12, 3, none⟩ = some (.string ⟨EX.toArray⟩) ∧ w'.cell? ⟨g12, 4, none⟩ = some (.slice B4 em.length d4)) ∧ w'.cell? ⟨w.heap.size + 1, 0, none⟩ = some (.int .i64 (i : Nat)))) (by kernel_rfl) (KS.out _ hbz) (fun hHeld => ?_)
    refine wpAnyH_take (i := 0) (v := ?_) rfl (by kernel_rfl) (by kernel_rfl) (by kernel_rfl) (fun _ _ _ h => h) (Or.inl ⟨by rfl, ?_⟩) (by assumption) ?_
    rotate_left
    · (intro w hSw; obtain ⟨⟨q0, q1, q2, q3, q4⟩, q5⟩ := hSw; go_simp; (try with_reducible rfl))
    (try simp only [List.getElem_toArray, List.getElem_cons_zero, Act.put, List.setIfInBounds_toArray, List.set_cons_zero, List.set_cons_succ])
    refine wpAnyH_take (i := 1) (v := ?_) rfl (by kernel_rfl) (by kernel_rfl) (by kernel_rfl) (fun _ _ _ h => h) (Or.inl ⟨by rfl, ?_⟩) (by assumption) ?_
    rotate_left
    · (intro w hSw; obtain ⟨⟨q0, q1, q2, q3, q4⟩, q5⟩ := hSw; go_simp; (try with_reducible rfl))
    (try simp only [List.getElem_toArray, List.getElem_cons_zero, List.getElem_cons_succ, Act.put, List.setIfInBounds_toArray, List.set_cons_zero, List.set_cons_succ])
    refine wpAnyH_take (i := 2) (v := ?_) rfl (by kernel_rfl) (by kernel_rfl) (by kernel_rfl) (fun _ _ _ h => h) (Or.inl ⟨by rfl, ?_⟩) (by assumption) ?_
    rotate_left
    · (intro w hSw; obtain ⟨⟨q0, q1, q2, q3, q4⟩, q5⟩ := hSw; go_simp; (try with_reducible rfl))
    (try simp only [List.getElem_toArray, List.getElem_cons_zero, List.getElem_cons_succ, Act.put, List.setIfInBounds_toArray, List.set_cons_zero, List.set_cons_succ])
    refine wpAnyH_take (i := 3) (v := ?_) rfl (by kernel_rfl) (by kernel_rfl) (by kernel_rfl) (fun _ _ _ h => h) (Or.inl ⟨by rfl, ?_⟩) (by assumption) ?_
    rotate_left
    · (intro w hSw; obtain ⟨⟨q0, q1, q2, q3, q4⟩, q5⟩ := hSw; go_simp; (try with_reducible rfl))
    (try simp only [List.getElem_toArray, List.getElem_cons_zero, List.getElem_cons_succ, Act.put, List.setIfInBounds_toArray, List.set_cons_zero, List.set_cons_succ])
    refine wpAnyH_take (i := 5) (v := ?_) rfl (by kernel_rfl) (by kernel_rfl) (by kernel_rfl) (fun _ _ _ h => h) (Or.inl ⟨by rfl, ?_⟩) (by assumption) ?_
    rotate_left
    · (intro w hSw; obtain ⟨⟨q0, q1, q2, q3, q4⟩, q5⟩ := hSw; go_simp; (try with_reducible rfl))
    (try simp only [List.getElem_toArray, List.getElem_cons_zero, List.getElem_cons_succ, Act.put, List.setIfInBounds_toArray, List.set_cons_zero, List.set_cons_succ])
    refine wpAnyH_ready (rs := [4]) (by kernel_rfl) (by simp) ?_
    refine AllReadyH.cons rfl (fun K hK => ?_) AllReadyH.nil
    go_simp
    refine (HFI.out _).mono ?_
    rintro ee w9 ⟨rfl, hby⟩
    have hbx : Below wb.heap.size wb w9 := hbz.trans (hby.mono hbz.size)
    (try go_wp2_with fail)
    refine hK.out _ _ (KS.out _ hbx) (fun hHeld => ?_)
    clear hK K
    (try simp only [List.getElem_toArray, List.getElem_cons_zero, List.getElem_cons_succ, Act.put, List.setIfInBounds_toArray, List.set_cons_zero, List.set_cons_succ])
    obtain ⟨⟨s0, s1, s2, s3, s4, s5, s6, s7, s8, s9⟩, p0, p1, p2, p3, p4, p5, p6, p7, p8, p9⟩ := out_cells (O6.out.below hbx O6.out.lt)
    refine wpAnyH_ready (rs := [6]) (by kernel_rfl) (by simp) ?_
    refine AllReadyH.cons rfl (fun K hK => ?_) AllReadyH.nil
    go_simp
    refine hK.out _ _ (show _ from ⟨ed_cells (setMany_far (V6.out.below hbx V6.out.lt) (Nat.ne_of_gt N6.out) [(0, .int .i64 a), (1, .string ⟨ES.toArray⟩), (2, .slice A4 el.length c4), (3, .string ⟨EX.toArray⟩), (4, .slice B4 em.length d4)]), (rng_var (setMany_far (KB6.out.below hbx KB6.out.lt) (Nat.ne_of_lt (by have := LOW.out; omega)) [(0, .int .i64 a), (1, .string ⟨ES.toArray⟩), (2, .slice A4 el.length c4), (3, .string ⟨EX.toArray⟩), (4, .slice B4 em.length d4)])).1.1⟩) (fun hHeld => ?_)
    clear hK K
    (try simp only [List.getElem_toArray, List.getElem_cons_zero, List.getElem_cons_succ, Act.put, List.setIfInBounds_toArray, List.set_cons_zero, List.set_cons_succ])
    refine wpAnyH_take (i := 7) (v := ?_) rfl (by kernel_rfl) (by kernel_rfl) (by kernel_rfl) (fun _ _ _ h => h) (Or.inl ⟨by rfl, ?_⟩) (by assumption) ?_
    rotate_left
    · (intro w hSw; obtain ⟨⟨q0, q1, q2, q3, q4⟩, q5⟩ := hSw; go_simp; (try with_reducible rfl))
    (try simp only [List.getElem_toArray, List.getElem_cons_zero, List.getElem_cons_succ, Act.put, List.setIfInBounds_toArray, List.set_cons_zero, List.set_cons_succ])
    refine wpAnyH_ready (rs := [8]) (by kernel_rfl) (by simp) ?_
    refine AllReadyH.cons rfl (fun K hK => ?_) AllReadyH.nil
    go_simp
    refine hK.out _ _ (show _ from ⟨ed_cells (setMany_far (setMany_far (V6.out.below hbx V6.out.lt) (Nat.ne_of_gt N6.out) [(0, .int .i64 a), (1, .string ⟨ES.toArray⟩), (2, .slice A4 el.length c4), (3, .string ⟨EX.toArray⟩), (4, .slice B4 em.length d4)]) (Nat.ne_of_gt N6.out) [(9, .int .i64 (fi : Nat))]), (rng_var (setMany_far (setMany_far (KB6.out.below hbx KB6.out.lt) (Nat.ne_of_lt (by have := LOW.out; omega)) [(0, .int .i64 a), (1, .string ⟨ES.toArray⟩), (2, .slice A4 el.length c4), (3, .string ⟨EX.toArray⟩), (4, .slice B4 em.length d4)]) (Nat.ne_of_lt (by have := LOW.out; omega)) [(9, .int .i64 (fi : Nat))])).1.1⟩) (fun hHeld => ?_)
    clear hK K
    (try simp only [List.getElem_toArray, List.getElem_cons_zero, List.getElem_cons_succ, Act.put, List.setIfInBounds_toArray, List.set_cons_zero, List.set_cons_succ])
    refine wpAnyH_done (by kernel_rfl) ?_ _
    go_wp2_with fail
    go_meet
    have O9 := O6.out.below hbx O6.out.lt
    have K9 := K6.out.step hbx
    refine ⟨rfl, out_nine (out_five O9 _ _ _ _ _) _, setMany_far (setMany_far K9.res (Nat.ne_of_lt LOW.out) [(0, .int .i64 a), (1, .string ⟨ES.toArray⟩), (2, .slice A4 el.length c4), (3, .string ⟨EX.toArray⟩), (4, .slice B4 em.length d4)]) (Nat.ne_of_lt LOW.out) [(9, .int .i64 (fi : Nat))], setMany_below (setMany_below K9.bel (by have := LOW.out; omega) [(0, .int .i64 a), (1, .string ⟨ES.toArray⟩), (2, .slice A4 el.length c4), (3, .string ⟨EX.toArray⟩), (4, .slice B4 em.length d4)]) (by have := LOW.out; omega) [(9, .int .i64 (fi : Nat))], ?_, ?_, ?_⟩
    · exact row_many (row_many (row_step RA.out hbx) O9 noLab_out [(0, .int .i64 a), (1, .string ⟨ES.toArray⟩), (2, .slice A4 el.length c4), (3, .string ⟨EX.toArray⟩), (4, .slice B4 em.length d4)]) (out_five O9 _ _ _ _ _) noLab_out [(9, .int .i64 (fi : Nat))]
    · exact row_many (row_many (row_step RB.out hbx) O9 noLab_out [(0, .int .i64 a), (1, .string ⟨ES.toArray⟩), (2, .slice A4 el.length c4), (3, .string ⟨EX.toArray⟩), (4, .slice B4 em.length d4)]) (out_five O9 _ _ _ _ _) noLab_out [(9, .int .i64 (fi : Nat))]
    · exact row_many (row_many (row_step RC6.out hbx) O9 noLab_out [(0, .int .i64 a), (1, .string ⟨ES.toArray⟩), (2, .slice A4 el.length c4), (3, .string ⟨EX.toArray⟩), (4, .slice B4 em.length d4)]) (out_five O9 _ _ _ _ _) noLab_out [(9, .int .i64 (fi : Nat))]
  case rest =>
    obtain ⟨rfl, hO, hR, hB, rA, rB, rC⟩ := hcut
    obtain ⟨⟨r0, r1, r2, r3, r4, r5, r6, r7, r8, r9⟩, t0, t1, t2, t3, t4, t5, t6, t7, t8, t9⟩ := out_cells hR
    obtain ⟨⟨q0, q1, q2, q3, q4, q5, q6, q7, q8, q9⟩, _⟩ := out_cells hO
    go_wp2_with fail
    exact end_out (A := A4) (B := B4) (C := C3) (l := el) (m := em) (q := xl) rfl _ hR noLab_out hB (by omega) rA rB rC rfl rfl rfl (by rw [← HV.out]) (fun _ _ h => h)
end Go.Proofs.YtgpmfkedcoiopaaGreatDoor

/-
  The landed turn: ~: layer 14.
-/
namespace Go.Proofs.YtgpmfkedcoiopaaGreatDoor
open Go.RowKit
set_option maxRecDepth 100000

theorem let_xor (b : UInt8) (h : letB b = true) : bits .xor .u8 (b.toNat : Int) 32 = ((otherB b).toNat : Int) := by
  have hb := b.toNat_lt
  have h' := of_decide_eq_true h
  rw [u8_xor _ _ (by omega) (by omega) (by omega) (by omega)]
  have key : ∀ n : Fin 256, ((97 ≤ n.1 ∧ n.1 ≤ 122) ∨ (65 ≤ n.1 ∧ n.1 ≤ 90)) → n.1 ^^^ 32 = if 97 ≤ n.1 ∧ n.1 ≤ 122 then n.1 - 32 else n.1 + 32 := by decide +kernel
  have hk := key ⟨b.toNat, hb⟩ h'
  dsimp only at hk
  rw [show ((b.toNat : Int)).toNat = b.toNat by omega, show ((32 : Int)).toNat = 32 from rfl, hk]
  unfold otherB
  by_cases h1 : 97 ≤ b.toNat ∧ b.toNat ≤ 122
  · rw [if_pos h1, if_pos h1, UInt8.toNat_ofNat', Nat.mod_eq_of_lt (by omega)]
  · rw [if_neg h1, if_neg h1, if_pos (by omega), UInt8.toNat_ofNat', Nat.mod_eq_of_lt (by omega)]
theorem other_not {b : UInt8} (h : letB b = false) : otherB b = b := by
  have h' := of_decide_eq_false h
  unfold otherB
  rw [if_neg (by omega), if_neg (by omega)]
/-- the first k letters turned -/
def togK (S V : List UInt8) (F E k : Nat) : List UInt8 := (togL S V F E).take k ++ ((S.drop F).take (E - F)).drop k
section
variable {S V : List UInt8} {F E k : Nat}
theorem togK_zero : togK S V F E 0 = (S.drop F).take (E - F) := by simp [togK]
theorem togK_all (_h : E ≤ S.length) : togK S V F E (E - F) = togL S V F E := by
  have := togL_len S V F E
  unfold togK
  rw [List.take_of_length_le (by omega), List.drop_eq_nil_of_le (by rw [List.length_take]; omega), List.append_nil]
theorem togK_len (h : E ≤ S.length) (hk : k ≤ E - F) : (togK S V F E k).length = E - F := by
  have := togL_len S V F E
  unfold togK
  rw [List.length_append, List.length_take, List.length_drop, List.length_take, List.length_drop]; omega
theorem togK_get (h : E ≤ S.length) (hk : k < E - F) : (togK S V F E k)[k]? = some (S.getD (F + k) 0) := by
  have hkl : k < (togK S V F E k).length := by rw [togK_len h (by omega)]; exact hk
  rw [List.getElem?_eq_getElem hkl]
  congr 1
  revert hkl
  have := togL_len S V F E
  unfold togK
  intro hkl
  rw [List.getElem_append_right (by rw [List.length_take]; omega), List.getElem_drop]
  have e : k + (k - ((togL S V F E).take k).length) = k := by rw [List.length_take]; omega
  simp only [e]
  rw [List.getElem_take, List.getElem_drop, List.getD_eq_getElem?_getD, List.getElem?_eq_getElem (by omega)]
  rfl
theorem togK_step (h : E ≤ S.length) (hk : k < E - F) : (togK S V F E k).set k (togB (S.getD (F + k) 0) (V.getD (F + k) 0)) = togK S V F E (k + 1) := by
  have hl := togL_len S V F E
  have hs := togL_succ S V F E k hk
  have h1 : ((togL S V F E).take k).length = k := by rw [List.length_take]; omega
  have h2 : k < ((S.drop F).take (E - F)).length := by rw [List.length_take, List.length_drop]; omega
  unfold togK
  rw [hs, List.set_append, if_neg (by omega), h1, Nat.sub_self, List.drop_eq_getElem_cons h2, List.set_cons_zero, List.append_assoc]
  rfl
end
set_option maxHeartbeats 8000000 in
theorem oxTurn_any (A : Option Addr) (c : Nat) (S : List UInt8) (l : List RunP) (y : Nat) (hy : y < 18446744073709551616) (V : List UInt8) (hg : goodT S l = true) (hVS : V.length = S.length) (hvw : ∀ i, V.getD i 0 = S.getD i 0 ∨ V.getD i 0 = 35) (F E : Nat) (hFE : F ≤ E) (hE : E ≤ V.length) (hV : V.length ≤ 4096) (w : World) (h : Txu w A S l) :
    Calls Tryz.prog 54 #[.agg #[.string ⟨S.toArray⟩, .slice A l.length c, .int .u64 (y : Nat), .string ⟨V.toArray⟩], .int .i64 (F : Nat), .int .i64 (E : Nat)] w (GivesO w (
      if (turnedM S l y (F : Nat) (E : Nat) (togL S V F E) (cutOf S l (F : Nat) (E : Nat)).1.2 true).2 = 0 then (⟨(turnedM S l y (F : Nat) (E : Nat) (togL S V F E) (cutOf S l (F : Nat) (E : Nat)).1.2 true).1.1, [], [], false, false, (F : Nat)⟩, 0) else (out0, (turnedM S l y (F : Nat) (E : Nat) (togL S V F E) (cutOf S l (F : Nat) (E : Nat)).1.2 true).2))) := by
  have hok := okT_cut (S := S) (l := l) h.hf (F : Nat) (E : Nat)
  have hcut := (cut_goodO hg hFE (by omega)).1
  obtain ⟨xl, hxl⟩ : ∃ xl, pack (((bytesOf l).drop F).take (E - F)) = xl := ⟨_, rfl⟩
  rw [hxl] at hcut
  have hxn : xl.length ≤ 1000000 := by
    have := pack_len (((bytesOf l).drop F).take (E - F))
    rw [hxl, List.length_take, List.length_drop] at this
    omega
  have HXN := Lib.hid hxn
  clear hxn
  rw [hcut] at hok ⊢
  have hEs : E ≤ S.length := by omega
  have hZ := togK_zero (S := S) (V := V) (F := F) (E := E)
  have HALL := Lib.hid (togK_all (V := V) (F := F) hEs)
  have HLEN := Lib.hid (fun k hk => togK_len (V := V) (F := F) (k := k) hEs hk)
  have HGET := Lib.hid (fun k hk => togK_get (V := V) (F := F) (k := k) hEs hk)
  have HSTEP := Lib.hid (fun k hk => togK_step (V := V) (F := F) (k := k) hEs hk)
  have hXl : ((S.drop F).take (E - F)).length = E - F := by rw [List.length_take, List.length_drop]; omega
  have HOK := Lib.hid hok
  have HX := Lib.hid hcut
  obtain ⟨XS, hXS⟩ : ∃ XS, (S.drop F).take (E - F) = XS := ⟨_, rfl⟩
  rw [hXS] at HX HOK hZ hXl
  obtain ⟨G, hG⟩ : ∃ G, togL S V F E = G := ⟨_, rfl⟩
  have hGl := togL_len S V F E
  rw [hG] at HALL hGl ⊢
  obtain ⟨tm, htm⟩ : ∃ tm, turnedM S l y (F : Nat) (E : Nat) G xl true = tm := ⟨_, rfl⟩
  dsimp only at HOK ⊢
  rw [htm]
  have HTM := Lib.hid htm
  clear htm hcut hok hxl
  obtain ⟨v, hv⟩ : ∃ v, (if tm.2 = 0 then ((⟨tm.1.1, [], [], false, false, (F : Nat)⟩ : OutP), 0) else (out0, tm.2)) = v := ⟨_, rfl⟩
  rw [hv]
  have HV := Lib.hid hv
  clear hv
  have HXS := Lib.hid hXS
  have HZ := Lib.hid hZ
  have HGL := Lib.hid hGl
  have HXL := Lib.hid hXl
  clear hXS hG hZ hGl hXl
  obtain ⟨N, hN⟩ : ∃ N, E - F = N := ⟨_, rfl⟩
  have K0 : Hid (SiK w _ _ A c S l y V) := SiK.start h
  have hFN : E = F + N := by omega
  rw [hN] at HLEN HGET HSTEP HALL HGL HXL
  have FX : Hid (Fits xl ∧ xl.length ≤ maxLen) := ⟨HOK.out.2.1, HOK.out.2.2⟩
  have HFN := Lib.hid hFN
  have HVS := Lib.hid hVS
  have HVW := Lib.hid hvw
  clear h hN hFN hVS hvw
  go_enter Tryz.func54, Tryz.ntmps54
  go_upto_region 1 with fail
  generalize (w.alloc (.cells #[.string ⟨S.toArray⟩, .slice A l.length c, .int .u64 (y : Nat), .string ⟨V.toArray⟩] 89)).alloc (.cells #[.int .i64 0, .string ⟨#[]⟩, .slice none 0 0, .string ⟨#[]⟩, .slice none 0 0, .string ⟨#[]⟩, .slice none 0 0, .bool false, .bool false, .int .i64 0] 43) = wx at *
  obtain ⟨⟨y0, y1, y2, y3⟩, _⟩ := si_cells K0.out.si
  go_upto_region 2 with (go_at_call 37; refine (stpCut_any A c _ S l (F : Nat) (E : Nat) _ (Nat.le_refl _) K0.out.tS).mono ?_; rw [HX.out]; rintro e w2 ⟨A3, c3, rfl, own, bb⟩; dsimp only at own ⊢; have K2 := Lib.hid ((K0.out.step bb).alloc (.cells #[.string ⟨XS.toArray⟩, .slice A3 xl.length c3] 32)); have R2 := Lib.hid (row_step (Row.of_own own) ((Below.refl _ _).alloc (Nat.le_refl _) (.cells #[.string ⟨XS.toArray⟩, .slice A3 xl.length c3] 32))); have B2 := Lib.hid (Blk.new w2 32 #[.string ⟨XS.toArray⟩, .slice A3 xl.length c3]); have LOW : Hid (w.heap.size + 1 < w2.heap.size) := (K0.out.step bb).res.lt; clear y0 y1 y2 y3 bb own)
  generalize hg8 : w2.heap.size = g8 at *
  generalize w2.alloc (.cells #[.string ⟨XS.toArray⟩, .slice A3 xl.length c3] 32) = wa at *
  clear hg8 K0
  obtain ⟨x0, x1⟩ := txt_cells B2.out
  go_upto_region 4 with fail
  obtain ⟨cs, w3, hcv, hs3, hb3⟩ := seen_new XS wa
  rw [HXL.out] at hcv hs3
  have hcs : N ≤ cs := by obtain ⟨cur, _, _, h, _⟩ := hs3; exact h
  have HN9 : Hid (g8 < wa.heap.size) := B2.out.lt
  generalize hge : wa.heap.size = g at *
  have HGE := Lib.hid hge
  go_upto_region 5 with fail
  generalize had : (⟨g, 0, none⟩ : Addr) = ad0 at *
  have HAD : Hid (∀ k : Nat, ad0.add k = ⟨g, k, none⟩) := fun k => by rw [← had]; exact (base_add g k)
  have HA0 := Lib.hid had
  clear had hge hcv
  go_wp2_with fail
  go_loopw [31] (fun i wr => ∃ k : Nat, k ≤ N ∧ i = .int .i64 k ∧ SeenRow wr g N cs (togK S V F E k) ∧ Below g wa wr) (fun i _ => N - (intOf i).toNat)
  case atStart => exact ⟨0, Nat.zero_le _, rfl, by rw [← HXS.out] at hs3; rw [togK_zero]; exact hs3, hb3⟩
  case round =>
    obtain ⟨k, hk, rfl, hs, hb⟩ := hrel
    have bw : Below wa.heap.size wa wr := by rw [HGE.out]; exact hb
    have K4 := Lib.hid (K2.out.step bw)
    have hFN := HFN.out
    by_cases hlt : k < N
    · obtain ⟨⟨z0, z1, z2, z3⟩, _⟩ := si_cells K4.out.si
      have e1 : (0 : Int) ≤ ((F : Int) + (k : Int)) := by omega
      have e2 : ((F : Int) + (k : Int)) < (V.length : Int) := by omega
      have hg2 := byte_at V (F + k) (by omega)
      have hst := HSTEP.out k hlt
      have fz := hs.frozen hlt
      have hgt := HGET.out k hlt
      have hcl := hs.cell (j := k) (by rw [HLEN.out k (by omega)]; exact hlt)
      rw [List.getElem?_eq_getElem (by rw [HLEN.out k (by omega)]; exact hlt)] at hgt
      rw [Option.some.inj hgt] at hcl
      have hvk := HVW.out (F + k)
      clear hFN
      have e3 : V.getD (F + k) 0 = V[F + k]'(by omega) := by rw [List.getD_eq_getElem?_getD, List.getElem?_eq_getElem (by omega)]; rfl
      rw [e3] at hst hvk
      generalize V[F + k]'(by omega) = vb at *
      generalize S.getD (F + k) 0 = cb at *
      have hadk := HAD.out k
      by_cases hlet : letB vb = true
      · have hvc : vb = cb := hvk.resolve_right (fun e => by rw [e] at hlet; exact absurd hlet (by decide))
        subst hvc
        have hxor := let_xor vb hlet
        have htb : togB vb vb = otherB vb := if_pos rfl
        rw [htb] at hst
        have hset := hs.set k (otherB vb)
        rw [hst] at hset
        have hbs : Below g wa (wr.setCell ⟨g, k, none⟩ (byt (otherB vb))) := hb.setCell (p := ⟨g, k, none⟩) (Nat.le_refl _) _
        rw [← hadk] at hcl fz hset hbs
        have HSET := Lib.hid (And.intro hset hbs)
        have hcl2 : wr.cell? (ad0.add k) = some (.int .u8 (vb.toNat : Int)) := hcl
        clear hset hbs hst htb hgt hadk hcl
        go_wp2_with (go_at_call 105; refine (oxLetter_any vb _).mono ?_; rw [hlet]; rintro e w5 ⟨rfl, hw5⟩; subst hw5)
        go_roundw
        case rel => refine ⟨_, _, _, _, _, _, _, _, _, _, _, _, _, _, _, _, _, _, ?_, rfl⟩; exact ⟨k + 1, hlt, by go_num, HSET.out.1, HSET.out.2⟩
        case measure => simp [intOf]; omega
      · have hlet' : letB vb = false := by simpa using hlet
        have htb : togB cb vb = cb := by
          unfold togB
          by_cases h : vb = cb
          · rw [if_pos h, ← h]; exact other_not hlet'
          · rw [if_neg h]
        rw [htb] at hst
        have hkl : k < (togK S V F E k).length := by rw [HLEN.out k (by omega)]; exact hlt
        have hse : (togK S V F E k).set k cb = togK S V F E k := by
          have e := Option.some.inj hgt
          rw [← e]
          exact List.set_getElem_self hkl
        have HS5 : Hid (SeenRow wr g N cs (togK S V F E (k + 1))) := by show SeenRow _ _ _ _ _; rw [← hst, hse]; exact hs
        have HB5 := Lib.hid hb
        clear hst hse htb hgt hadk hcl hs hkl hvk hlet
        go_wp2_with (go_at_call 105; refine (oxLetter_any vb _).mono ?_; rw [hlet']; rintro e w5 ⟨rfl, hw5⟩; subst hw5)
        go_roundw
        case rel => refine ⟨_, _, _, _, _, _, _, _, _, _, _, _, _, _, _, _, _, _, ?_, rfl⟩; exact ⟨k + 1, hlt, by go_num, HS5.out, HB5.out⟩
        case measure => simp [intOf]; omega
    · obtain rfl : k = N := by omega
      clear hFN
      rw [HALL.out] at hs
      have hrow := hs.row
      rw [HA0.out] at hrow
      have hcv2 := str_of_row (P := Tryz.prog) (c := cs) (l := G) 131 9 5 Tryz.underlying131 Tryz.underlying5 Tryz.underlying9 hrow
      rw [HGL.out] at hcv2
      have B4 := Lib.hid (B2.out.below bw B2.out.lt)
      have R4 := Lib.hid (row_step (show Row wa wa.heap.size A3 (flatR xl) by rw [HGE.out]; exact R2.out) bw)
      obtain ⟨x0, x1⟩ := txt_cells B4.out
      have x2 := B4.out.frozen 0
      clear hs hb hrow hlt
      go_upto_region 12 with fail
      have K5 : Hid (SiK w (wr.setCell ⟨g8, 0, none⟩ (.string ⟨G.toArray⟩)) (w.heap.size + 1) A c S l y V) := K4.out.many B4.out noLab_txt LOW.out [(0, .string ⟨G.toArray⟩)]
      have B5 : Hid (Blk (wr.setCell ⟨g8, 0, none⟩ (.string ⟨G.toArray⟩)) g8 32 #[.string ⟨G.toArray⟩, .slice A3 xl.length c3]) := by show Blk _ _ _ _; have := B4.out.set_ 0 (.string ⟨G.toArray⟩); simpa using this
      have R5 : Hid (Row (wr.setCell ⟨g8, 0, none⟩ (.string ⟨G.toArray⟩)) (wr.setCell ⟨g8, 0, none⟩ (.string ⟨G.toArray⟩)).heap.size A3 (flatR xl)) := row_many R4.out B4.out noLab_txt [(0, .string ⟨G.toArray⟩)]
      generalize wr.setCell ⟨g8, 0, none⟩ (.string ⟨G.toArray⟩) = w6 at *
      clear x0 x1 x2 hcv2 K4 B4 R4 bw
      obtain ⟨⟨z0, z1, z2, z3⟩, _⟩ := si_cells K5.out.si
      obtain ⟨x0, x1⟩ := txt_cells B5.out
      obtain ⟨⟨⟨a, ES, el, EX, em⟩, W⟩, n⟩ := tm
      go_upto_region 13 with (go_at_call 69; refine (oxRepl_any A A3 c c3 S l y hy V (F : Nat) (E : Nat) G xl HXN.out _ K5.out.tS ⟨by rw [HGL.out]; have := HFN.out; unfold maxLen; omega, FX.out.1, FX.out.2, R5.out⟩).mono ?_; rw [HTM.out]; rintro ee w3 ⟨A4, c4, B4, d4, rfl, rA, rB, bb⟩; dsimp only at rA rB ⊢; have T3 := Lib.hid ((K5.out.step bb).alloc (.cells #[.int .i64 a, .string ⟨ES.toArray⟩, .slice A4 el.length c4, .string ⟨EX.toArray⟩, .slice B4 em.length d4] 41)); have RA := Lib.hid (row_step rA ((Below.refl _ _).alloc (Nat.le_refl _) (.cells #[.int .i64 a, .string ⟨ES.toArray⟩, .slice A4 el.length c4, .string ⟨EX.toArray⟩, .slice B4 em.length d4] 41))); have RB := Lib.hid (row_step rB ((Below.refl _ _).alloc (Nat.le_refl _) (.cells #[.int .i64 a, .string ⟨ES.toArray⟩, .slice A4 el.length c4, .string ⟨EX.toArray⟩, .slice B4 em.length d4] 41))); have V3 := Lib.hid (Blk.new w3 41 #[.int .i64 a, .string ⟨ES.toArray⟩, .slice A4 el.length c4, .string ⟨EX.toArray⟩, .slice B4 em.length d4]); clear rA rB bb z0 z1 z2 z3 x0 x1)
      generalize hg12 : w3.heap.size = g12 at *
      generalize w3.alloc (.cells #[.int .i64 a, .string ⟨ES.toArray⟩, .slice A4 el.length c4, .string ⟨EX.toArray⟩, .slice B4 em.length d4] 41) = w4 at *
      clear hg12 K5 B5 R5
      obtain ⟨⟨r0, r1, r2, r3, r4, r5, r6, r7, r8, r9⟩, t0, t1, t2, t3, t4, t5, t6, t7, t8, t9⟩ := out_cells T3.out.res
      by_cases hn : n = 0
      · subst hn
        have HV2 := Lib.hid ((if_pos rfl).symm.trans HV.out)
        obtain ⟨e0, e1, e2, e3, e4⟩ := ed_cells V3.out
        go_wp2_with fail
        exact end_out (A := A4) (B := B4) (C := none) (c := c4) (d := d4) (k := 0) (R := []) (l := el) (m := em) (q := []) rfl _ T3.out.res noLab_out T3.out.bel (Nat.le_succ _) RA.out RB.out (.inl rfl) rfl rfl rfl HV2.out (fun _ _ h => h)
      · have HV2 := Lib.hid ((if_neg hn).symm.trans HV.out)
        have hn2 : ((n : Int) != 0) = true := by rw [bne_iff_ne]; omega
        go_wp2_with fail
        exact end_zero rfl _ T3.out.res noLab_out T3.out.bel (Nat.le_succ _) rfl rfl rfl HV2.out (fun _ _ h => h)
end Go.Proofs.YtgpmfkedcoiopaaGreatDoor

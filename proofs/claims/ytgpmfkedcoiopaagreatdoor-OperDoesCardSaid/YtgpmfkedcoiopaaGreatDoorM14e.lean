/-
  Merged: OpSame, OpLowO, OpSays, OpOurs, OpOk, OpAliv, OpBeh, OpLst, OpAll.
-/
import Derived.Test.YtgpmfkedcoiopaaGreatDoorM14b
import Derived.Test.YtgpmfkedcoiopaaGreatDoorM14c
import Derived.Test.YtgpmfkedcoiopaaGreatDoorM14d
import Derived.Deep.MidRow
/-
  The document's Same, of one answer twice: layer 14.
-/
namespace Go.Proofs.YtgpmfkedcoiopaaGreatDoor
open Go.RowKit
set_option maxRecDepth 100000
set_option maxHeartbeats 8000000 in
theorem refPSame_any (A B C A2 B2 C2 : Option Addr) (c d g c2 d2 g2 : Nat) (ea : Int) (ES : List UInt8) (el : List RunP) (EX : List UInt8) (em : List RunP) (RS : List UInt8) (rl : List RunP) (bl bw : Bool) (ra : Int) (w : World)
    (h1 : Txu w A ES el) (h2 : Txu w B EX em) (h3 : Txu w C RS rl) (h4 : Txu w A2 ES el) (h5 : Txu w B2 EX em) (h6 : Txu w C2 RS rl) :
    Calls Tryz.prog 18 #[.agg #[.int .i64 ea, .string ⟨ES.toArray⟩, .slice A el.length c, .string ⟨EX.toArray⟩, .slice B em.length d, .string ⟨RS.toArray⟩, .slice C rl.length g, .bool bl, .bool bw, .int .i64 ra], .agg #[.int .i64 ea, .string ⟨ES.toArray⟩, .slice A2 el.length c2, .string ⟨EX.toArray⟩, .slice B2 em.length d2, .string ⟨RS.toArray⟩, .slice C2 rl.length g2, .bool bl, .bool bw, .int .i64 ra]] w fun e w' => e = .returned (.bool true) ∧ Below w.heap.size w w' := by
  have BX := Lib.hid (boxesE2 w 47 47 #[.int .i64 ea, .string ⟨ES.toArray⟩, .slice A el.length c, .string ⟨EX.toArray⟩, .slice B em.length d, .string ⟨RS.toArray⟩, .slice C rl.length g, .bool bl, .bool bw, .int .i64 ra] #[.int .i64 ea, .string ⟨ES.toArray⟩, .slice A2 el.length c2, .string ⟨EX.toArray⟩, .slice B2 em.length d2, .string ⟨RS.toArray⟩, .slice C2 rl.length g2, .bool bl, .bool bw, .int .i64 ra])
  have hb := BX.out.now.2.2
  have K := Lib.hid (BX.out.and (((grow_txu h1).and ((grow_txu h2).and ((grow_txu h3).and ((grow_txu h4).and ((grow_txu h5).and (grow_txu h6)))))).step hb))
  clear h1 h2 h3 h4 h5 h6 BX hb
  go_enter Tryz.func18, Tryz.ntmps18
  go_upto_region 1 with fail
  generalize (w.alloc (.cells #[.int .i64 ea, .string ⟨ES.toArray⟩, .slice A el.length c, .string ⟨EX.toArray⟩, .slice B em.length d, .string ⟨RS.toArray⟩, .slice C rl.length g, .bool bl, .bool bw, .int .i64 ra] 47)).alloc (.cells #[.int .i64 ea, .string ⟨ES.toArray⟩, .slice A2 el.length c2, .string ⟨EX.toArray⟩, .slice B2 em.length d2, .string ⟨RS.toArray⟩, .slice C2 rl.length g2, .bool bl, .bool bw, .int .i64 ra] 47) = wx at *
  obtain ⟨⟨r0, r1, r2, r3, r4, r5, r6, r7, r8, r9⟩, _⟩ := out_cells K.out.now.1.1
  obtain ⟨⟨s0, s1, s2, s3, s4, s5, s6, s7, s8, s9⟩, _⟩ := out_cells K.out.now.1.2.1
  go_wp2_with (first
    | (go_at_call 61; refine (refESame_any A B A2 B2 c d c2 d2 ea ES el EX em _ K.out.now.2.1 K.out.now.2.2.1 K.out.now.2.2.2.2.1 K.out.now.2.2.2.2.2.1).mono ?_; rintro e w2 ⟨rfl, bb⟩; replace K := Lib.hid (K.out.step bb); clear bb r0 r1 r2 r3 r4 r5 r6 r7 r8 r9 s0 s1 s2 s3 s4 s5 s6 s7 s8 s9; obtain ⟨⟨r0, r1, r2, r3, r4, r5, r6, r7, r8, r9⟩, _⟩ := out_cells K.out.now.1.1; obtain ⟨⟨s0, s1, s2, s3, s4, s5, s6, s7, s8, s9⟩, _⟩ := out_cells K.out.now.1.2.1)
    | (go_at_call 27; refine (refTSame_any C C2 g g2 _ _ RS RS rl rl _ (Nat.le_refl _) (Nat.le_refl _) K.out.now.2.2.2.1 K.out.now.2.2.2.2.2.2).mono ?_; rw [show decide (RS = RS ∧ rl = rl) = true from decide_eq_true ⟨rfl, rfl⟩]; rintro e w3 ⟨rfl, bb⟩; replace K := Lib.hid (K.out.step bb); clear bb r0 r1 r2 r3 r4 r5 r6 r7 r8 r9 s0 s1 s2 s3 s4 s5 s6 s7 s8 s9; obtain ⟨⟨r0, r1, r2, r3, r4, r5, r6, r7, r8, r9⟩, _⟩ := out_cells K.out.now.1.1; obtain ⟨⟨s0, s1, s2, s3, s4, s5, s6, s7, s8, s9⟩, _⟩ := out_cells K.out.now.1.2.1))
  go_ret
  exact ⟨rfl, K.out.now.1.2.2⟩
end Go.Proofs.YtgpmfkedcoiopaaGreatDoor

/-
  The document's Low, where it is true: layer 14.
-/
namespace Go.Proofs.YtgpmfkedcoiopaaGreatDoor
open Go.RowKit
set_option maxRecDepth 100000
end Go.Proofs.YtgpmfkedcoiopaaGreatDoor

/-
  What package oper answers (to be proved of the landed one): layer 14.
-/
namespace Go.Proofs.YtgpmfkedcoiopaaGreatDoor
open Go.RowKit

/-- in every world that only has more than w0 -/
structure OperSays (w0 : World) : Prop where
  span : ∀ (S : List UInt8) (p q k : Int) (w : World), Below w0.heap.size w0 w → S.length ≤ 4096 → (-9223372036854775808 ≤ p ∧ p ≤ 9223372036854775807) → (-9223372036854775808 ≤ q ∧ q ≤ 9223372036854775807) → (-9223372036854775808 ≤ k ∧ k ≤ 9223372036854775807) →
    Calls Tryz.prog 13 #[.string ⟨S.toArray⟩, .int .i64 p, .int .i64 q, .int .i64 k] w fun e w' => e = .returned (.agg #[.int .i64 (spanM S p q k).1, .int .i64 (spanM S p q k).2.1, .bool (spanM S p q k).2.2]) ∧ Below w.heap.size w w'
  do_ : ∀ (A : Option Addr) (c : Nat) (S : List UInt8) (l : List RunP) (y : Nat) (op f t : Int) (b : Bool) (w : World), Below w0.heap.size w0 w → Txu w A S l → S.length ≤ 5000 → l.length ≤ 5000 → y < 18446744073709551616 → (-2147483648 ≤ op ∧ op ≤ 2147483647) → (-9223372036854775808 ≤ f ∧ f ≤ 9223372036854775807) → (-9223372036854775808 ≤ t ∧ t ≤ 9223372036854775807) →
    Calls Tryz.prog 16 #[.agg #[.string ⟨S.toArray⟩, .slice A l.length c], .int .u64 (y : Nat), .int .i32 op, .agg #[.int .i64 f, .int .i64 t, .bool b]] w (GivesO w (doM S l y op f t b))
  swap : ∀ (A : Option Addr) (c : Nat) (S : List UInt8) (l : List RunP) (y : Nat) (p n k : Int) (w : World), Below w0.heap.size w0 w → Txu w A S l → S.length ≤ 5000 → l.length ≤ 5000 → y < 18446744073709551616 → (-9223372036854775808 ≤ p ∧ p ≤ 9223372036854775807) → (-9223372036854775808 ≤ n ∧ n ≤ 9223372036854775807) → (-2147483648 ≤ k ∧ k ≤ 2147483647) →
    Calls Tryz.prog 20 #[.agg #[.string ⟨S.toArray⟩, .slice A l.length c], .int .u64 (y : Nat), .int .i64 p, .int .i64 n, .int .i32 k] w (GivesO w (swapM S l y p n k))
  put : ∀ (A A2 : Option Addr) (c c2 : Nat) (S X : List UInt8) (l m : List RunP) (y : Nat) (p : Int) (b ah : Bool) (n : Int) (w : World), Below w0.heap.size w0 w → Txu w A S l → Txu w A2 X m → S.length ≤ 5000 → l.length ≤ 5000 → X.length ≤ 5000 → m.length ≤ 5000 → y < 18446744073709551616 → (-9223372036854775808 ≤ p ∧ p ≤ 9223372036854775807) → (-9223372036854775808 ≤ n ∧ n ≤ 9223372036854775807) →
    Calls Tryz.prog 22 #[.agg #[.string ⟨S.toArray⟩, .slice A l.length c], .int .u64 (y : Nat), .int .i64 p, .agg #[.string ⟨X.toArray⟩, .slice A2 m.length c2, .bool b], .bool ah, .int .i64 n] w (GivesO w (putM S l y p X m b ah n))
theorem OperSays.at {w0 w : World} (KS : OperSays w0) (h : Below w0.heap.size w0 w) : OperSays w where
  span := fun S p q k w' b => KS.span S p q k w' (h.trans (b.mono h.size))
  do_ := fun A c S l y op f t z w' b => KS.do_ A c S l y op f t z w' (h.trans (b.mono h.size))
  swap := fun A c S l y p n k w' b => KS.swap A c S l y p n k w' (h.trans (b.mono h.size))
  put := fun A A2 c c2 S X l m y p z ah n w' b => KS.put A A2 c c2 S X l m y p z ah n w' (h.trans (b.mono h.size))

/-- the law's own box of a job -/
def jobC (S : List UInt8) (A : Option Addr) (l : List RunP) (c : Nat) (y : Nat) (op f t : Int) (b : Bool) (p n : Int) (X : List UInt8) (A2 : Option Addr) (m : List RunP) (c2 : Nat) (xb ah : Bool) : Array Value :=
  #[.string ⟨S.toArray⟩, .slice A l.length c, .int .u64 (y : Nat), .int .i32 op, .int .i64 f, .int .i64 t, .bool b, .int .i64 p, .int .i64 n, .string ⟨X.toArray⟩, .slice A2 m.length c2, .bool xb, .bool ah]
set_option maxHeartbeats 1000000 in
theorem lawFits14_any (A : Option Addr) (c : Nat) (S : List UInt8) (l : List RunP) (w : World) :
    Calls Tryz.prog 33 #[.agg #[.string ⟨S.toArray⟩, .slice A l.length c]] w fun e w' => e = .returned (.bool (decide (S.length ≤ 1024) && decide (l.length ≤ 5000))) ∧ Below w.heap.size w w' := by
  by_cases h1 : S.length ≤ 1024
  · have g1 : decide ((S.length : Int) ≤ 1024) = true := decide_eq_true (by omega)
    have HE : Hid ((decide (S.length ≤ 1024) && decide (l.length ≤ 5000)) = decide ((l.length : Int) ≤ 5000)) := by
      rw [Hid, decide_eq_true h1, Bool.true_and]
      exact decide_eq_decide.2 (by omega)
    go_enter Tryz.func33, Tryz.ntmps33
    go_wp2_with fail
    go_ret
    exact ⟨by rw [HE.out]; simp, (Below.refl _ _).alloc (Nat.le_refl _) _⟩
  · have g1 : decide ((S.length : Int) ≤ 1024) = false := decide_eq_false (by omega)
    have HE : Hid ((decide (S.length ≤ 1024) && decide (l.length ≤ 5000)) = false) := by rw [Hid, decide_eq_false h1]; rfl
    go_enter Tryz.func33, Tryz.ntmps33
    go_wp2_with fail
    go_ret
    exact ⟨by rw [HE.out]; rfl, (Below.refl _ _).alloc (Nat.le_refl _) _⟩
def fitsJ (S : List UInt8) (l : List RunP) (X : List UInt8) (m : List RunP) : Bool := (decide (S.length ≤ 1024) && decide (l.length ≤ 5000)) && (decide (X.length ≤ 5000) && decide (m.length ≤ 5000))
theorem job_cells {w : World} {g T : Nat} {S : List UInt8} {A : Option Addr} {l : List RunP} {c y : Nat} {op f t : Int} {b : Bool} {p n : Int} {X : List UInt8} {A2 : Option Addr} {m : List RunP} {c2 : Nat} {xb ah : Bool} (h : Blk w g T (jobC S A l c y op f t b p n X A2 m c2 xb ah)) :
    w.cell? ⟨g, 0, none⟩ = some (.string ⟨S.toArray⟩) ∧ w.cell? ⟨g, 1, none⟩ = some (.slice A l.length c) ∧ w.cell? ⟨g, 2, none⟩ = some (.int .u64 (y : Nat)) ∧ w.cell? ⟨g, 3, none⟩ = some (.int .i32 op) ∧ w.cell? ⟨g, 4, none⟩ = some (.int .i64 f) ∧ w.cell? ⟨g, 5, none⟩ = some (.int .i64 t) ∧ w.cell? ⟨g, 6, none⟩ = some (.bool b) ∧ w.cell? ⟨g, 7, none⟩ = some (.int .i64 p) ∧ w.cell? ⟨g, 8, none⟩ = some (.int .i64 n) ∧ w.cell? ⟨g, 9, none⟩ = some (.string ⟨X.toArray⟩) ∧ w.cell? ⟨g, 10, none⟩ = some (.slice A2 m.length c2) ∧ w.cell? ⟨g, 11, none⟩ = some (.bool xb) ∧ w.cell? ⟨g, 12, none⟩ = some (.bool ah) :=
  ⟨h.cell 0, h.cell 1, h.cell 2, h.cell 3, h.cell 4, h.cell 5, h.cell 6, h.cell 7, h.cell 8, h.cell 9, h.cell 10, h.cell 11, h.cell 12⟩
set_option maxHeartbeats 2000000 in
set_option maxRecDepth 100000 in
theorem lawFitsJ_any (S : List UInt8) (A : Option Addr) (l : List RunP) (c y : Nat) (op f t : Int) (b : Bool) (p n : Int) (X : List UInt8) (A2 : Option Addr) (m : List RunP) (c2 : Nat) (xb ah : Bool) (hX : X.length ≤ maxLen) (hm : m.length ≤ maxLen) (w : World) :
    Calls Tryz.prog 15 #[.agg (jobC S A l c y op f t b p n X A2 m c2 xb ah)] w fun e w' => e = .returned (.bool (fitsJ S l X m)) ∧ Below w.heap.size w w' := by
  have HF := Lib.hid (fun wx => lawFits14_any A c S l wx)
  have HG := Lib.hid (fun wx => lawFits_any X hX m hm A2 c2 wx)
  have HE : Hid (fitsJ S l X m = ((decide (S.length ≤ 1024) && decide (l.length ≤ 5000)) && (decide (X.length ≤ 5000) && decide (m.length ≤ 5000)))) := rfl
  generalize (decide (S.length ≤ 1024) && decide (l.length ≤ 5000)) = d1 at *
  generalize fitsJ S l X m = d2 at *
  unfold jobC
  go_enter Tryz.func15, Tryz.ntmps15
  go_upto_region 1 with fail
  have B0 := Lib.hid ((Below.refl w.heap.size w).alloc (Nat.le_refl _) (.cells (jobC S A l c y op f t b p n X A2 m c2 xb ah) 38))
  have C0 := Lib.hid (Blk.new w 38 (jobC S A l c y op f t b p n X A2 m c2 xb ah))
  change Code.wp _ _ _ _ (w.alloc (.cells (jobC S A l c y op f t b p n X A2 m c2 xb ah) 38))
  generalize w.alloc (.cells (jobC S A l c y op f t b p n X A2 m c2 xb ah) 38) = wb at *
  obtain ⟨x0, x1, x2, x3, x4, x5, x6, x7, x8, x9, x10, x11, x12⟩ := job_cells C0.out
  cases d1 with
  | false =>
    go_wp2_with (go_at_call 33; refine (HF.out _).mono ?_; rintro e w1 ⟨rfl, b1⟩)
    go_ret
    exact ⟨by rw [HE.out]; rfl, B0.out.trans (b1.mono B0.out.size)⟩
  | true =>
    go_wp2_with (first
      | (go_at_call 33; refine (HF.out _).mono ?_; rintro e w1 ⟨rfl, b1⟩; have C1 := Lib.hid (C0.out.below b1 C0.out.lt); clear x0 x1 x2 x3 x4 x5 x6 x7 x8 x9 x10 x11 x12; obtain ⟨x0, x1, x2, x3, x4, x5, x6, x7, x8, x9, x10, x11, x12⟩ := job_cells C1.out)
      | (go_at_call 45; refine (HG.out _).mono ?_; rintro e w2 ⟨rfl, b2⟩))
    go_ret
    exact ⟨by rw [HE.out]; rfl, B0.out.trans ((b1.trans (b2.mono b1.size)).mono B0.out.size)⟩
end Go.Proofs.YtgpmfkedcoiopaaGreatDoor

/-
  The law's own answer of an operator: layer 14.
-/
namespace Go.Proofs.YtgpmfkedcoiopaaGreatDoor
open Go.RowKit
set_option maxRecDepth 100000

theorem ret_out1 {fn : Func} {p : Tmp} (h : fn.results = #[.cell p 47]) (a : Act) (w : World) (g : Nat) (cs : Array Value) (h10 : cs.size = 10) (hp : a.tmps.getD p undef = .pointer (some ⟨g, 0, none⟩)) (hg : Blk w g 47 cs) (hd : a.defers = [])
    {Q : Ending → World → Prop} (hQ : Q (.returned (.agg cs)) w) : bodyPost Tryz.prog fn Q .ret a w := by
  obtain ⟨⟨fs, hu⟩, hi⟩ := out_facts
  exact bodyPost_ret (results_cell_row h a.tmps w g 47 cs (0, 0) _ hp hg hu rfl (by rw [hi, h10])) hd hQ
set_option maxHeartbeats 4000000 in
theorem lawOurs_any (ea : Int) (ES : List UInt8) (A4 : Option Addr) (el : List RunP) (c4 : Nat) (EX : List UInt8) (B4 : Option Addr) (em : List RunP) (d4 : Nat) (RS : List UInt8) (C4 : Option Addr) (rl : List RunP) (g4 : Nat) (bl bw : Bool) (ra : Int) (w : World) :
    Calls Tryz.prog 19 #[.agg #[.int .i64 ea, .string ⟨ES.toArray⟩, .slice A4 el.length c4, .string ⟨EX.toArray⟩, .slice B4 em.length d4, .string ⟨RS.toArray⟩, .slice C4 rl.length g4, .bool bl, .bool bw, .int .i64 ra]] w fun e w' => e = .returned (.agg #[.int .i64 ea, .string ⟨ES.toArray⟩, .slice A4 el.length c4, .string ⟨EX.toArray⟩, .slice B4 em.length d4, .string ⟨RS.toArray⟩, .slice C4 rl.length g4, .bool bl, .bool bw, .int .i64 ra]) ∧ Below w.heap.size w w' := by
  go_enter Tryz.func19, Tryz.ntmps19
  go_upto_region 1 with fail
  have B0 := Lib.hid (((Below.refl w.heap.size w).alloc (Nat.le_refl _) (.cells #[.int .i64 ea, .string ⟨ES.toArray⟩, .slice A4 el.length c4, .string ⟨EX.toArray⟩, .slice B4 em.length d4, .string ⟨RS.toArray⟩, .slice C4 rl.length g4, .bool bl, .bool bw, .int .i64 ra] 43)).alloc (by simp) (.cells #[.int .i64 0, .string ⟨#[]⟩, .slice none 0 0, .string ⟨#[]⟩, .slice none 0 0, .string ⟨#[]⟩, .slice none 0 0, .bool false, .bool false, .int .i64 0] 47))
  have C0 := Lib.hid ((Blk.new w 43 #[.int .i64 ea, .string ⟨ES.toArray⟩, .slice A4 el.length c4, .string ⟨EX.toArray⟩, .slice B4 em.length d4, .string ⟨RS.toArray⟩, .slice C4 rl.length g4, .bool bl, .bool bw, .int .i64 ra]).alloc (.cells #[.int .i64 0, .string ⟨#[]⟩, .slice none 0 0, .string ⟨#[]⟩, .slice none 0 0, .string ⟨#[]⟩, .slice none 0 0, .bool false, .bool false, .int .i64 0] 47))
  have D0 := Blk.new (w.alloc (.cells #[.int .i64 ea, .string ⟨ES.toArray⟩, .slice A4 el.length c4, .string ⟨EX.toArray⟩, .slice B4 em.length d4, .string ⟨RS.toArray⟩, .slice C4 rl.length g4, .bool bl, .bool bw, .int .i64 ra] 43)) 47 #[.int .i64 0, .string ⟨#[]⟩, .slice none 0 0, .string ⟨#[]⟩, .slice none 0 0, .string ⟨#[]⟩, .slice none 0 0, .bool false, .bool false, .int .i64 0]
  rw [World.size_alloc] at D0
  replace D0 := Lib.hid D0
  generalize (w.alloc (.cells #[.int .i64 ea, .string ⟨ES.toArray⟩, .slice A4 el.length c4, .string ⟨EX.toArray⟩, .slice B4 em.length d4, .string ⟨RS.toArray⟩, .slice C4 rl.length g4, .bool bl, .bool bw, .int .i64 ra] 43)).alloc (.cells #[.int .i64 0, .string ⟨#[]⟩, .slice none 0 0, .string ⟨#[]⟩, .slice none 0 0, .string ⟨#[]⟩, .slice none 0 0, .bool false, .bool false, .int .i64 0] 47) = wb at *
  obtain ⟨⟨x0, x1, x2, x3, x4, x5, x6, x7, x8, x9⟩, _⟩ := out_cells C0.out
  obtain ⟨⟨r0, r1, r2, r3, r4, r5, r6, r7, r8, r9⟩, t0, t1, t2, t3, t4, t5, t6, t7, t8, t9⟩ := out_cells D0.out
  go_wp2_with fail
  have EB : Blk (setMany wb (w.heap.size + 1) [(0, .int .i64 ea), (1, .string ⟨ES.toArray⟩), (2, .slice A4 el.length c4), (3, .string ⟨EX.toArray⟩), (4, .slice B4 em.length d4), (5, .string ⟨RS.toArray⟩), (6, .slice C4 rl.length g4), (7, .bool bl), (8, .bool bw), (9, .int .i64 ra)]) (w.heap.size + 1) 47 #[.int .i64 ea, .string ⟨ES.toArray⟩, .slice A4 el.length c4, .string ⟨EX.toArray⟩, .slice B4 em.length d4, .string ⟨RS.toArray⟩, .slice C4 rl.length g4, .bool bl, .bool bw, .int .i64 ra] := out_ten D0.out _ _ _ _ _ _ _ _ _ _
  have BB := setMany_below B0.out (show w.heap.size ≤ w.heap.size + 1 by omega) [(0, .int .i64 ea), (1, .string ⟨ES.toArray⟩), (2, .slice A4 el.length c4), (3, .string ⟨EX.toArray⟩), (4, .slice B4 em.length d4), (5, .string ⟨RS.toArray⟩), (6, .slice C4 rl.length g4), (7, .bool bl), (8, .bool bw), (9, .int .i64 ra)]
  change bodyPost _ _ _ _ _ (setMany wb (w.heap.size + 1) [(0, .int .i64 ea), (1, .string ⟨ES.toArray⟩), (2, .slice A4 el.length c4), (3, .string ⟨EX.toArray⟩), (4, .slice B4 em.length d4), (5, .string ⟨RS.toArray⟩), (6, .slice C4 rl.length g4), (7, .bool bl), (8, .bool bw), (9, .int .i64 ra)])
  generalize setMany wb (w.heap.size + 1) [(0, .int .i64 ea), (1, .string ⟨ES.toArray⟩), (2, .slice A4 el.length c4), (3, .string ⟨EX.toArray⟩), (4, .slice B4 em.length d4), (5, .string ⟨RS.toArray⟩), (6, .slice C4 rl.length g4), (7, .bool bl), (8, .bool bw), (9, .int .i64 ra)] = wz at *
  exact ret_out1 rfl _ _ (w.heap.size + 1) #[.int .i64 ea, .string ⟨ES.toArray⟩, .slice A4 el.length c4, .string ⟨EX.toArray⟩, .slice B4 em.length d4, .string ⟨RS.toArray⟩, .slice C4 rl.length g4, .bool bl, .bool bw, .int .i64 ra] rfl rfl EB rfl ⟨rfl, BB⟩
end Go.Proofs.YtgpmfkedcoiopaaGreatDoor

/-
  What operators answer fits: layer 14.
-/
namespace Go.Proofs.YtgpmfkedcoiopaaGreatDoor
open Go.RowKit

def OkO (o : OutP) : Prop := OkT ((o.E.S, o.E.l), 0) ∧ OkT ((o.E.X, o.E.m), 0) ∧ OkT ((o.RS, o.rl), 0)
def OkE (E : EdP) : Prop := OkT ((E.S, E.l), 0) ∧ OkT ((E.X, E.m), 0)
theorem okE_zero : OkE edit0 := ⟨okT_nil 0, okT_nil 0⟩
theorem okO_zero : OkO out0 := ⟨okT_nil 0, okT_nil 0, okT_nil 0⟩
theorem okT_any {r : (List UInt8 × List RunP) × Nat} (h : OkT r) (n : Nat) : OkT ((r.1.1, r.1.2), n) := h
theorem okE_turned {S : List UInt8} {l : List RunP} (hf : Fits l) (y : Nat) (f e : Int) {X : List UInt8} {m : List RunP} (hX : OkT ((X, m), 0)) (b : Bool) : OkE (turnedM S l y f e X m b).1.1 := by
  by_cases h : (turnedM S l y f e X m b).2 = 0
  · obtain ⟨_, _, _, _, _, hx, hm, hc, _, _, _⟩ := turned_ok h
    refine ⟨?_, ?_⟩
    · have := okT_cut (S := S) hf f e
      rw [hc] at this
      exact this
    · rw [hx, hm]
      exact hX
  · unfold turnedM at h ⊢
    split at h
    · next hb => rw [if_pos hb]; exact okE_zero
    · next hb =>
      rw [if_neg hb]
      split at h
      · exact absurd rfl h
      · next h0 => rw [if_neg h0]; exact okE_zero
theorem fits_bytes {l : List RunP} (hf : Fits l) : ∀ x ∈ bytesOf l, x < 18446744073709551616 := by
  intro x hx
  unfold bytesOf at hx
  rw [List.mem_flatMap] at hx
  obtain ⟨r, hr, hx⟩ := hx
  rw [(List.mem_replicate.1 hx).2]
  exact (hf r hr).1
theorem labs_fit {L : List TP} (h : ∀ t ∈ L, Fits t.2) : ∀ x ∈ labsC L, x < 18446744073709551616 := by
  intro x hx
  unfold labsC at hx
  rw [List.mem_flatMap] at hx
  obtain ⟨t, ht, hx⟩ := hx
  exact fits_bytes (h t ht) x hx
theorem okT_pile {L : List TP} (h : ∀ t ∈ L, Fits t.2) : OkT ((pileM L).getD ([], []), 0) := by
  cases hp : pileM L with
  | none => exact okT_nil 0
  | some x =>
    obtain ⟨S, l⟩ := x
    obtain ⟨h1, h2⟩ := pile_fits (labs_fit h) hp
    exact ⟨(goodT_size (pile_good hp)).1, h1, h2⟩
theorem shList_fits {S : List UInt8} {l : List RunP} (hf : Fits l) (V : List UInt8) {y : Nat} (hy : y < 18446744073709551616) (op a b : Int) : ∀ k, ∀ t ∈ shList S l V y op a b k, Fits t.2
  | 0 => fun t ht => by simp [shList] at ht
  | k + 1 => fun t ht => by
    unfold shList at ht
    rcases List.mem_append.1 ht with ht | ht
    · exact shList_fits hf V hy op a b k t ht
    · unfold shPiece at ht
      dsimp only at ht
      rcases List.mem_append.1 ht with ht | ht
      · split at ht
        · rw [List.mem_singleton] at ht
          rw [ht]
          exact (okT_make [9] y hy).2.1
        · simp at ht
      · rw [List.mem_singleton] at ht
        rw [ht]
        exact (okT_cut hf _ _).2.1
theorem joList_fits {S : List UInt8} {l : List RunP} (hf : Fits l) (V : List UInt8) {y : Nat} (hy : y < 18446744073709551616) (a : Int) : ∀ k, ∀ t ∈ joList S l V y a k, Fits t.2
  | 0 => fun t ht => by
    unfold joList at ht
    rw [List.mem_singleton] at ht
    rw [ht]
    exact (okT_cut hf _ _).2.1
  | k + 1 => fun t ht => by
    unfold joList at ht
    rcases List.mem_append.1 ht with ht | ht
    · exact joList_fits hf V hy a k t ht
    · unfold joPiece at ht
      dsimp only at ht
      rcases List.mem_append.1 ht with ht | ht
      · split at ht
        · rw [List.mem_singleton] at ht
          rw [ht]
          exact (okT_make [32] y hy).2.1
        · simp at ht
      · rw [List.mem_singleton] at ht
        rw [ht]
        exact (okT_cut hf _ _).2.1
theorem okO_of {E : EdP} (h : OkE E) {RS : List UInt8} {rl : List RunP} (hr : OkT ((RS, rl), 0)) (b c : Bool) (z : Int) : OkO ⟨E, RS, rl, b, c, z⟩ := ⟨h.1, h.2, hr⟩
theorem okO_if {E : EdP} (h : OkE E) (n : Nat) (b c : Bool) (z : Int) : OkO (if n = 0 then ((⟨E, [], [], b, c, z⟩ : OutP), 0) else (out0, n)).1 := by
  split
  · exact okO_of h (okT_nil 0) b c z
  · exact okO_zero
theorem okO_do {S : List UInt8} {l : List RunP} (hf : Fits l) {y : Nat} (hy : y < 18446744073709551616) (op f t : Int) (b : Bool) : OkO (doM S l y op f t b).1 := by
  unfold doM
  dsimp only
  split
  · exact okO_zero
  · next hn =>
    have h0 : (viewOf S l y).2 = 0 := Decidable.byContradiction fun e => hn (.inl e)
    have hr : rightM (viewOf S l y).1 f t b = true := by
      cases h : rightM (viewOf S l y).1 f t b with
      | true => rfl
      | false => exact absurd (.inr h) hn
    have hvs := view_same h0
    have hvl := view_len S l y
    split
    · unfold takenM
      dsimp only
      split
      · exact ⟨okT_nil 0, okT_nil 0, okT_any (okT_cut hf _ _) 0⟩
      · split
        · exact okO_of (okE_turned hf _ _ _ (okT_nil 0) _) (okT_any (okT_cut hf _ _) 0) _ _ _
        · exact okO_of (okE_turned hf _ _ _ (okT_nil 0) _) (okT_any (okT_cut hf _ _) 0) _ _ _
    · split
      · unfold shiftedM
        dsimp only
        exact okO_if (okE_turned hf _ _ _ (okT_pile (shList_fits hf _ hy _ _ _ _)) _) _ _ _ _
      · split
        · unfold toggledM
          dsimp only
          obtain ⟨_, _, _, ⟨F, E, q4, q5, q6⟩, _⟩ := right_facts hr hvl
          rw [q4]
          dsimp only
          rw [Int.toNat_natCast, Int.toNat_natCast]
          have hX : OkT ((togL S (viewOf S l y).1 F E, (cutOf S l (F : Int) (E : Int)).1.2), 0) := ⟨by show (togL _ _ _ _).length ≤ 4096; rw [togL_len]; omega, (okT_cut hf _ _).2.1, (okT_cut hf _ _).2.2⟩
          generalize togL S (viewOf S l y).1 F E = g at *
          generalize (cutOf S l (F : Int) (E : Int)).1.2 = q at *
          have h := okE_turned (S := S) hf y (F : Int) (E : Int) hX true
          generalize turnedM S l y (F : Int) (E : Int) g q true = tm at *
          exact okO_if h _ _ _ _
        · split
          · unfold joinedM
            dsimp only
            split
            · exact okO_zero
            · exact okO_if (okE_turned hf _ _ _ (okT_pile (joList_fits hf _ hy _ _)) _) _ _ _ _
          · exact okO_zero
end Go.Proofs.YtgpmfkedcoiopaaGreatDoor

/-
  Answers of package oper that the document fixes: layer 14.
-/
namespace Go.Proofs.YtgpmfkedcoiopaaGreatDoor
open Go.RowKit
set_option maxRecDepth 100000

theorem alP_1 : (doM [97, 98, 10, 32, 99, 100] [(1, 6)] 1 74 0 0 true).2 = 0 ∧ (doM [97, 98, 10, 32, 99, 100] [(1, 6)] 1 74 0 0 true).1.E.X = [97, 98, 32, 99, 100] ∧ (doM [97, 98, 10, 32, 99, 100] [(1, 6)] 1 74 0 0 true).1.at_ = 2 := by decide +kernel
theorem alP_2 : (doM [97, 98, 10, 32, 99, 100] [(1, 6)] 1 100 0 0 true).2 = 0 ∧ (doM [97, 98, 10, 32, 99, 100] [(1, 6)] 1 100 0 0 true).1.E.S = [97, 98, 10] ∧ (doM [97, 98, 10, 32, 99, 100] [(1, 6)] 1 100 0 0 true).1.RS = [97, 98] ∧ (doM [97, 98, 10, 32, 99, 100] [(1, 6)] 1 100 0 0 true).1.lines = true ∧ (doM [97, 98, 10, 32, 99, 100] [(1, 6)] 1 100 0 0 true).1.wide = true ∧ (doM [97, 98, 10, 32, 99, 100] [(1, 6)] 1 100 0 0 true).1.at_ = 1 := by decide +kernel
theorem alP_3 : (swapM [97, 98, 10, 32, 99, 100] [(1, 6)] 1 0 3 120).2 = 6 := by decide +kernel
theorem grow_new (w : World) (T : TypeId) (cs : Array Value) : Grow (w.alloc (.cells cs T)) (fun w' => Blk w' w.heap.size T cs) := fun _ hb => (Blk.new w T cs).below hb (by simp)
theorem OkT.txt2 {S : List UInt8} {l : List RunP} {n : Nat} (h : OkT ((S, l), n)) {w : World} {A : Option Addr} (hr : Row w w.heap.size A (flatR l)) : Txu w A S l := h.txt hr
set_option maxHeartbeats 4000000 in
theorem aliveP_any (w : World) (KS : OperSays w) : Calls Tryz.prog 12 #[] w fun e w' => e = .returned (.bool true) ∧ Below w.heap.size w w' := by
  obtain ⟨a1, a2, a3⟩ := alP_1
  obtain ⟨d1, d2, d3, d4, d5, d6⟩ := alP_2
  have s1 := alP_3
  have HS := Lib.hid KS
  clear KS
  obtain ⟨r1, hr1⟩ : ∃ r, doM [97, 98, 10, 32, 99, 100] [(1, 6)] 1 74 0 0 true = r := ⟨_, rfl⟩
  obtain ⟨r2, hr2⟩ : ∃ r, doM [97, 98, 10, 32, 99, 100] [(1, 6)] 1 100 0 0 true = r := ⟨_, rfl⟩
  obtain ⟨r3, hr3⟩ : ∃ r, swapM [97, 98, 10, 32, 99, 100] [(1, 6)] 1 0 3 120 = r := ⟨_, rfl⟩
  rw [hr1] at a1 a2 a3
  rw [hr2] at d1 d2 d3 d4 d5 d6
  rw [hr3] at s1
  have HR1 := Lib.hid hr1
  have HR2 := Lib.hid hr2
  have HR3 := Lib.hid hr3
  clear hr1 hr2 hr3
  obtain ⟨⟨⟨ea1, ES1, el1, EX1, em1⟩, RS1, rl1, bl1, bw1, ra1⟩, n1⟩ := r1
  obtain ⟨⟨⟨ea2, ES2, el2, EX2, em2⟩, RS2, rl2, bl2, bw2, ra2⟩, n2⟩ := r2
  obtain ⟨⟨⟨ea3, ES3, el3, EX3, em3⟩, RS3, rl3, bl3, bw3, ra3⟩, n3⟩ := r3
  dsimp only at a1 a2 a3 d1 d2 d3 d4 d5 d6 s1
  subst a1 a2 a3 d1 d2 d3 d4 d5 d6 s1
  have HD1 : Hid (∀ wx A c, Below w.heap.size w wx → Txu wx A [97, 98, 10, 32, 99, 100] [(1, 6)] → Calls Tryz.prog 16 #[.agg #[.string ⟨#[97, 98, 10, 32, 99, 100]⟩, .slice A 1 c], .int .u64 1, .int .i32 74, .agg #[.int .i64 0, .int .i64 0, .bool true]] wx (GivesO wx ((⟨⟨ea1, ES1, el1, [97, 98, 32, 99, 100], em1⟩, RS1, rl1, bl1, bw1, 2⟩, 0)))) := fun wx A c hb hx => by
    have := HS.out.do_ A c [97, 98, 10, 32, 99, 100] [(1, 6)] 1 74 0 0 true wx hb hx (by decide) (by decide) (by decide) (by decide) (by decide) (by decide)
    rw [HR1.out] at this
    exact this
  have HD2 : Hid (∀ wx A c, Below w.heap.size w wx → Txu wx A [97, 98, 10, 32, 99, 100] [(1, 6)] → Calls Tryz.prog 16 #[.agg #[.string ⟨#[97, 98, 10, 32, 99, 100]⟩, .slice A 1 c], .int .u64 1, .int .i32 100, .agg #[.int .i64 0, .int .i64 0, .bool true]] wx (GivesO wx ((⟨⟨ea2, [97, 98, 10], el2, EX2, em2⟩, [97, 98], rl2, true, true, 1⟩, 0)))) := fun wx A c hb hx => by
    have := HS.out.do_ A c [97, 98, 10, 32, 99, 100] [(1, 6)] 1 100 0 0 true wx hb hx (by decide) (by decide) (by decide) (by decide) (by decide) (by decide)
    rw [HR2.out] at this
    exact this
  have HD3 : Hid (∀ wx A c, Below w.heap.size w wx → Txu wx A [97, 98, 10, 32, 99, 100] [(1, 6)] → Calls Tryz.prog 20 #[.agg #[.string ⟨#[97, 98, 10, 32, 99, 100]⟩, .slice A 1 c], .int .u64 1, .int .i64 0, .int .i64 3, .int .i32 120] wx (GivesO wx ((⟨⟨ea3, ES3, el3, EX3, em3⟩, RS3, rl3, bl3, bw3, ra3⟩, 6)))) := fun wx A c hb hx => by
    have := HS.out.swap A c [97, 98, 10, 32, 99, 100] [(1, 6)] 1 0 3 120 wx hb hx (by decide) (by decide) (by decide) (by decide) (by decide) (by decide)
    rw [HR3.out] at this
    exact this
  clear HS HR1 HR2 HR3
  have TX : Hid (Txu (w.alloc (.cells #[.int .u64 1, .int .i64 6] 77)) (some ⟨w.heap.size, 0, none⟩) [97, 98, 10, 32, 99, 100] [(1, 6)]) := ⟨by unfold maxLen; decide, by intro r hr; simp at hr; subst hr; simp, by unfold maxLen; decide, by have := row_newL w 77 [.int .u64 1, .int .i64 6]; simpa [flatR] using this⟩
  have B0 : Below w.heap.size w (w.alloc (.cells #[.int .u64 1, .int .i64 6] 77)) := (Below.refl _ _).alloc (Nat.le_refl _) _
  go_enter Tryz.func12, Tryz.ntmps12
  go_upto_region 2 with fail
  have Kt := grow_new (w.alloc (.cells #[.int .u64 1, .int .i64 6] 77)) 32 #[.string ⟨#[97, 98, 10, 32, 99, 100]⟩, .slice (some ⟨w.heap.size, 0, none⟩) 1 1]
  rw [World.size_alloc] at Kt
  have Kx := Grow.alloc (grow_txu TX.out) (.cells #[.string ⟨#[97, 98, 10, 32, 99, 100]⟩, .slice (some ⟨w.heap.size, 0, none⟩) 1 1] 32)
  have Kb : Grow ((w.alloc (.cells #[.int .u64 1, .int .i64 6] 77)).alloc (.cells #[.string ⟨#[97, 98, 10, 32, 99, 100]⟩, .slice (some ⟨w.heap.size, 0, none⟩) 1 1] 32)) (fun w' => Below w.heap.size w w') := fun w' hb => (B0.alloc B0.size _).trans (hb.mono ((B0.alloc B0.size _).size))
  have K := Lib.hid (Kt.and (Kx.and Kb))
  clear Kt Kx Kb TX B0
  generalize (w.alloc (.cells #[.int .u64 1, .int .i64 6] 77)).alloc (.cells #[.string ⟨#[97, 98, 10, 32, 99, 100]⟩, .slice (some ⟨w.heap.size, 0, none⟩) 1 1] 32) = wb at *
  obtain ⟨y0, y1⟩ := txt_cells K.out.now.1
  go_upto_region 3 with (go_at_call 16; refine (HD1.out _ _ _ K.out.now.2.2 K.out.now.2.1).mono ?_; rintro e w2 ⟨A1, c1, B1, d1, C1, g1, rfl, _, _, _, bb⟩; have K2 := Lib.hid (((K.out.step bb).alloc (.cells #[.int .i64 ea1, .string ⟨ES1.toArray⟩, .slice A1 el1.length c1, .string ⟨#[97, 98, 32, 99, 100]⟩, .slice B1 em1.length d1, .string ⟨RS1.toArray⟩, .slice C1 rl1.length g1, .bool bl1, .bool bw1, .int .i64 2] 43)).and (grow_new w2 43 #[.int .i64 ea1, .string ⟨ES1.toArray⟩, .slice A1 el1.length c1, .string ⟨#[97, 98, 32, 99, 100]⟩, .slice B1 em1.length d1, .string ⟨RS1.toArray⟩, .slice C1 rl1.length g1, .bool bl1, .bool bw1, .int .i64 2])); clear bb y0 y1)
  change Code.wp _ _ _ _ (w2.alloc (.cells #[.int .i64 ea1, .string ⟨ES1.toArray⟩, .slice A1 el1.length c1, .string ⟨#[97, 98, 32, 99, 100]⟩, .slice B1 em1.length d1, .string ⟨RS1.toArray⟩, .slice C1 rl1.length g1, .bool bl1, .bool bw1, .int .i64 2] 43))
  generalize w2.heap.size = h1 at *
  generalize w2.alloc (.cells #[.int .i64 ea1, .string ⟨ES1.toArray⟩, .slice A1 el1.length c1, .string ⟨#[97, 98, 32, 99, 100]⟩, .slice B1 em1.length d1, .string ⟨RS1.toArray⟩, .slice C1 rl1.length g1, .bool bl1, .bool bw1, .int .i64 2] 43) = w3 at *
  obtain ⟨y0, y1⟩ := txt_cells K2.out.now.1.1
  clear K HD1
  go_upto_region 4 with (go_at_call 16; refine (HD2.out _ _ _ K2.out.now.1.2.2 K2.out.now.1.2.1).mono ?_; rintro e w4 ⟨A2, c2, B2, d2, C2, g2, rfl, _, _, _, bb⟩; have K3 := Lib.hid (((K2.out.step bb).alloc (.cells #[.int .i64 ea2, .string ⟨#[97, 98, 10]⟩, .slice A2 el2.length c2, .string ⟨EX2.toArray⟩, .slice B2 em2.length d2, .string ⟨#[97, 98]⟩, .slice C2 rl2.length g2, .bool true, .bool true, .int .i64 1] 43)).and (grow_new w4 43 #[.int .i64 ea2, .string ⟨#[97, 98, 10]⟩, .slice A2 el2.length c2, .string ⟨EX2.toArray⟩, .slice B2 em2.length d2, .string ⟨#[97, 98]⟩, .slice C2 rl2.length g2, .bool true, .bool true, .int .i64 1])); clear bb y0 y1)
  change Code.wp _ _ _ _ (w4.alloc (.cells #[.int .i64 ea2, .string ⟨#[97, 98, 10]⟩, .slice A2 el2.length c2, .string ⟨EX2.toArray⟩, .slice B2 em2.length d2, .string ⟨#[97, 98]⟩, .slice C2 rl2.length g2, .bool true, .bool true, .int .i64 1] 43))
  generalize w4.heap.size = h2 at *
  generalize w4.alloc (.cells #[.int .i64 ea2, .string ⟨#[97, 98, 10]⟩, .slice A2 el2.length c2, .string ⟨EX2.toArray⟩, .slice B2 em2.length d2, .string ⟨#[97, 98]⟩, .slice C2 rl2.length g2, .bool true, .bool true, .int .i64 1] 43) = w5 at *
  obtain ⟨y0, y1⟩ := txt_cells K3.out.now.1.1.1
  clear K2 HD2
  go_upto_region 5 with (go_at_call 20; refine (HD3.out _ _ _ K3.out.now.1.1.2.2 K3.out.now.1.1.2.1).mono ?_; rintro e w6 ⟨A3, c3, B3, d3, C3, g3, rfl, _, _, _, bb⟩; have K4 := Lib.hid ((K3.out.step bb).alloc (.cells #[.int .i64 ea3, .string ⟨ES3.toArray⟩, .slice A3 el3.length c3, .string ⟨EX3.toArray⟩, .slice B3 em3.length d3, .string ⟨RS3.toArray⟩, .slice C3 rl3.length g3, .bool bl3, .bool bw3, .int .i64 ra3] 43)); clear bb y0 y1)
  change Code.wp _ _ _ _ (w6.alloc (.cells #[.int .i64 ea3, .string ⟨ES3.toArray⟩, .slice A3 el3.length c3, .string ⟨EX3.toArray⟩, .slice B3 em3.length d3, .string ⟨RS3.toArray⟩, .slice C3 rl3.length g3, .bool bl3, .bool bw3, .int .i64 ra3] 43))
  generalize w6.heap.size = h3 at *
  generalize w6.alloc (.cells #[.int .i64 ea3, .string ⟨ES3.toArray⟩, .slice A3 el3.length c3, .string ⟨EX3.toArray⟩, .slice B3 em3.length d3, .string ⟨RS3.toArray⟩, .slice C3 rl3.length g3, .bool bl3, .bool bw3, .int .i64 ra3] 43) = w7 at *
  clear K3 HD3
  obtain ⟨⟨p0, p1, p2, p3, p4, p5, p6, p7, p8, p9⟩, _⟩ := out_cells K4.out.now.1.2
  obtain ⟨⟨q0, q1, q2, q3, q4, q5, q6, q7, q8, q9⟩, _⟩ := out_cells K4.out.now.2
  go_wp2_with fail
  go_ret
  exact ⟨rfl, K4.out.now.1.1.2.2⟩
end Go.Proofs.YtgpmfkedcoiopaaGreatDoor

/-
  The law's own text behind an operator: layer 14.
-/
namespace Go.Proofs.YtgpmfkedcoiopaaGreatDoor
open Go.RowKit
set_option maxRecDepth 100000

/-- the text behind, or the text, and whether something was done -/
def GivesBh (w : World) (U : List UInt8) (q : List RunP) (ok : Bool) (e : Ending) (w' : World) : Prop := ∃ A c, e = .returned (.tuple #[.agg #[.string ⟨U.toArray⟩, .slice A q.length c], .bool ok]) ∧ Txu w' A U q ∧ Below w.heap.size w w'
section
variable {w : World} {S : List UInt8} {A : Option Addr} {l : List RunP} {c y : Nat} {op f t : Int} {b : Bool}
end
end Go.Proofs.YtgpmfkedcoiopaaGreatDoor

/-
  Blocks of many cells without labels; parts of them: layer 14.
-/
namespace Go.Proofs.YtgpmfkedcoiopaaGreatDoor
open Go.RowKit
set_option maxRecDepth 100000

theorem below_setCells {B g : Nat} {a : World} (hg : B ≤ g) : ∀ (vs : List Value) (o : Nat) {w : World}, Below B a w → Below B a (w.setCells g o vs)
  | [], _, _, h => h
  | v :: vs, o, _, h => below_setCells hg vs (o + 1) (h.setCell (p := ⟨g, o, none⟩) hg v)
theorem blk_setCells {g k T : Nat} {cs : Array Value} (hk : k ≠ g) : ∀ (vs : List Value) (o : Nat) {w : World}, Blk w k T cs → Blk (w.setCells g o vs) k T cs
  | [], _, _, h => h
  | v :: vs, o, _, h => blk_setCells hk vs (o + 1) (h.far (p := ⟨g, o, none⟩) hk v)
theorem rowN_setCells {g : Nat} {A : Option Addr} {xs : List Value} : ∀ (vs : List Value) (o : Nat) {w : World}, RowN w g A xs → RowN (w.setCells g o vs) g A xs
  | [], _, _, h => h
  | v :: vs, o, _, h => rowN_setCells vs (o + 1) (h.set o v)
def NoLabL (vs : List Value) : Prop := ∀ v ∈ vs, ∀ n : Int, v ≠ .int .u64 n
/-- a block of n cells, no label among them -/
structure LBlk (w : World) (g T n : Nat) : Prop where
  ex : ∃ cs, Blk w g T cs ∧ cs.size = n ∧ NoLab cs
section
variable {w w' : World} {g T n : Nat}
theorem LBlk.of {cs : Array Value} (h : Blk w g T cs) (hn : cs.size = n) (hl : NoLab cs) : LBlk w g T n := ⟨cs, h, hn, hl⟩
theorem LBlk.lt (h : LBlk w g T n) : g < w.heap.size := by obtain ⟨cs, h, _, _⟩ := h.ex; exact h.lt
theorem LBlk.below (h : LBlk w g T n) (hb : Below w.heap.size w w') : LBlk w' g T n := by
  obtain ⟨cs, h1, h2, h3⟩ := h.ex
  exact ⟨cs, h1.below hb h1.lt, h2, h3⟩
theorem LBlk.far {k : Nat} (h : LBlk w g T n) (hne : g ≠ k) (vs : List Value) (o : Nat) : LBlk (w.setCells k o vs) g T n := by
  obtain ⟨cs, h1, h2, h3⟩ := h.ex
  exact ⟨cs, blk_setCells hne vs o h1, h2, h3⟩
theorem noLab_set {cs : Array Value} (h : NoLab cs) {v : Value} (hv : ∀ n : Int, v ≠ .int .u64 n) (i : Nat) : NoLab (cs.setIfInBounds i v) := by
  intro u hu n
  have h1 : u ∈ cs.toList.set i v := by simpa using hu
  rcases List.mem_or_eq_of_mem_set h1 with h2 | h2
  · exact h u h2 n
  · rw [h2]; exact hv n
theorem LBlk.same : ∀ (vs : List Value) (o : Nat) {w : World}, LBlk w g T n → NoLabL vs → LBlk (w.setCells g o vs) g T n
  | [], _, _, h, _ => h
  | v :: vs, o, w, h, hv => by
    obtain ⟨cs, h1, h2, h3⟩ := h.ex
    refine LBlk.same vs (o + 1) (w := w.setCell ⟨g, o, none⟩ v) ⟨cs.setIfInBounds o v, h1.set_ o v, by simpa using h2, noLab_set h3 (hv v List.mem_cons_self) o⟩ fun u hu => hv u (List.mem_cons_of_mem _ hu)
theorem LBlk.there (h : LBlk w g T n) {o k : Nat} (hk : o + k ≤ n) : w.there g o k := fun j hj => by
  obtain ⟨cs, h1, h2, _⟩ := h.ex
  refine ⟨?_, h1.frozen (o + j)⟩
  rw [h1.cell (o + j), Array.getElem?_eq_getElem (by omega)]
  rfl
theorem LBlk.txu {A : Option Addr} {S : List UInt8} {l : List RunP} (h : LBlk w g T n) (hx : Txu w A S l) (vs : List Value) (o : Nat) : Txu (w.setCells g o vs) A S l := by
  obtain ⟨cs, h1, _, h3⟩ := h.ex
  have hr := rowN_setCells vs o (rowN_noLab hx.row (Nat.le_refl _) h1 h3)
  exact ⟨hx.hS, hx.hf, hx.hl, hr.row⟩
theorem range_below {o : Nat} {cs : List Value} (h : w.rangeAt g o cs) (hb : Below w.heap.size w w') (hg : g < w.heap.size) : w'.rangeAt g o cs := fun j v hj => by
  rw [← h j v hj]
  exact World.cell?_of_block (hb.block g hg)
end
/-- an answer's cells -/
def outV (o : OutP) (A : Option Addr) (c : Nat) (B : Option Addr) (d : Nat) (C : Option Addr) (g : Nat) : List Value := [.int .i64 o.E.a, .string ⟨o.E.S.toArray⟩, .slice A o.E.l.length c, .string ⟨o.E.X.toArray⟩, .slice B o.E.m.length d, .string ⟨o.RS.toArray⟩, .slice C o.rl.length g, .bool o.lines, .bool o.wide, .int .i64 o.at_]
theorem outV_len (o : OutP) (A : Option Addr) (c : Nat) (B : Option Addr) (d : Nat) (C : Option Addr) (g : Nat) : (outV o A c B d C g).length = 10 := rfl
/-- an answer's texts lie in memory -/
structure OutTx (w : World) (o : OutP) (A B C : Option Addr) : Prop where
  s : Txu w A o.E.S o.E.l
  x : Txu w B o.E.X o.E.m
  r : Txu w C o.RS o.rl
section
variable {w w' : World} {o : OutP} {A B C : Option Addr} {g T n : Nat}
theorem OutTx.of (h : OkO o) (rA : Row w w.heap.size A (flatR o.E.l)) (rB : Row w w.heap.size B (flatR o.E.m)) (rC : Row w w.heap.size C (flatR o.rl)) : OutTx w o A B C := ⟨h.1.txt2 rA, h.2.1.txt2 rB, h.2.2.txt2 rC⟩
theorem OutTx.below (h : OutTx w o A B C) (hb : Below w.heap.size w w') : OutTx w' o A B C := ⟨grow_txu h.s _ hb, grow_txu h.x _ hb, grow_txu h.r _ hb⟩
theorem OutTx.store (h : OutTx w o A B C) (hl : LBlk w g T n) (vs : List Value) (k : Nat) : OutTx (w.setCells g k vs) o A B C := ⟨hl.txu h.s vs k, hl.txu h.x vs k, hl.txu h.r vs k⟩
/-- an answer in a block's cells from k on -/
structure OutAt (w : World) (g k : Nat) (o : OutP) (A : Option Addr) (c : Nat) (B : Option Addr) (d : Nat) (C : Option Addr) (e : Nat) : Prop where
  cells : w.rangeAt g k (outV o A c B d C e)
  tx : OutTx w o A B C
variable {k c d e : Nat}
theorem OutAt.below (h : OutAt w g k o A c B d C e) (hb : Below w.heap.size w w') (hg : g < w.heap.size) : OutAt w' g k o A c B d C e := ⟨range_below h.cells hb hg, h.tx.below hb⟩
theorem OutAt.next (h : OutAt w g k o A c B d C e) (hl : LBlk w g T n) {vs : List Value} {i : Nat} (hi : k + 10 ≤ i) : OutAt (w.setCells g i vs) g k o A c B d C e :=
  ⟨World.rangeAt_setCells_apart h.cells g i vs (.inr (.inl (by rw [outV_len]; exact hi))), h.tx.store hl vs i⟩
theorem OutAt.far (h : OutAt w g k o A c B d C e) {g' T' n' : Nat} (hl : LBlk w g' T' n') (hne : g ≠ g') (vs : List Value) (i : Nat) : OutAt (w.setCells g' i vs) g k o A c B d C e :=
  ⟨World.rangeAt_setCells_apart h.cells g' i vs (.inl hne), h.tx.store hl vs i⟩
end
def z30 : Array Value := #[.int .i64 0, .string ⟨#[]⟩, .slice none 0 0, .string ⟨#[]⟩, .slice none 0 0, .string ⟨#[]⟩, .slice none 0 0, .bool false, .bool false, .int .i64 0,
  .int .i64 0, .string ⟨#[]⟩, .slice none 0 0, .string ⟨#[]⟩, .slice none 0 0, .string ⟨#[]⟩, .slice none 0 0, .bool false, .bool false, .int .i64 0,
  .int .i64 0, .string ⟨#[]⟩, .slice none 0 0, .string ⟨#[]⟩, .slice none 0 0, .string ⟨#[]⟩, .slice none 0 0, .bool false, .bool false, .int .i64 0]
def e3V (a b c : Nat) : Array Value := #[.int .i64 (a : Nat), .int .i64 (b : Nat), .int .i64 (c : Nat)]
end Go.Proofs.YtgpmfkedcoiopaaGreatDoor

/-
  The law's own answers of the three operators: layer 14.
-/
namespace Go.Proofs.YtgpmfkedcoiopaaGreatDoor
open Go.RowKit
set_option maxRecDepth 100000
/-- the memory of a call of all -/
structure AllK (w0 : World) (J : Array Value) (a b c : Nat) (wr : World) : Prop where
  job : Blk wr w0.heap.size 38 J
  r1 : LBlk wr (w0.heap.size + 1) 56 30
  r2 : LBlk wr (w0.heap.size + 1 + 1) 57 3
  ls : LBlk wr (w0.heap.size + 1 + 1 + 1) 56 30
  er : Blk wr (w0.heap.size + 1 + 1 + 1 + 1) 57 (e3V a b c)
  bel : Below w0.heap.size w0 wr
section
variable {w0 wr w' : World} {J : Array Value} {a b c : Nat}
theorem AllK.below (h : AllK w0 J a b c wr) (hb : Below wr.heap.size wr w') : AllK w0 J a b c w' :=
  ⟨h.job.below hb h.job.lt, h.r1.below hb, h.r2.below hb, h.ls.below hb, h.er.below hb h.er.lt, h.bel.trans (hb.mono h.bel.size)⟩
theorem AllK.store (h : AllK w0 J a b c wr) {vs : List Value} (hv : NoLabL vs) (o : Nat) : AllK w0 J a b c (wr.setCells (w0.heap.size + 1 + 1 + 1) o vs) :=
  ⟨blk_setCells (by omega) vs o h.job, h.r1.far (by omega) vs o, h.r2.far (by omega) vs o, h.ls.same vs o hv, blk_setCells (by omega) vs o h.er, below_setCells (by omega) vs o h.bel⟩
end
/-- what all answers: an answer's cells lie in the list from k on -/
structure PartO (w : World) (L : List Value) (k : Nat) (o : OutP) : Prop where
  ex : ∃ A c B d C e, (∀ j v, (outV o A c B d C e)[j]? = some v → L[k + j]? = some v) ∧ OutTx w o A B C
structure AllO (w : World) (L : List Value) (o0 o1 o2 : OutP) : Prop where
  len : L.length = 30
  one : L.toArray.all (·.oneCell') = true
  noLab : NoLabL L
  p0 : PartO w L 0 o0
  p1 : PartO w L 10 o1
  p2 : PartO w L 20 o2
theorem AllO.below {w w' : World} {L : List Value} {o0 o1 o2 : OutP} (h : AllO w L o0 o1 o2) (hb : Below w.heap.size w w') : AllO w' L o0 o1 o2 := by
  have key : ∀ {k o}, PartO w L k o → PartO w' L k o := fun hp => by
    obtain ⟨A, c, B, d, C, e, h1, h2⟩ := hp.ex
    exact ⟨A, c, B, d, C, e, h1, h2.below hb⟩
  exact ⟨h.len, h.one, h.noLab, key h.p0, key h.p1, key h.p2⟩
def GivesAll (w : World) (r0 r1 r2 : OutP × Nat) (e : Ending) (w' : World) : Prop := ∃ L : List Value, e = .returned (.tuple #[.agg L.toArray, .agg (e3V r0.2 r1.2 r2.2)]) ∧ AllO w' L r0.1 r1.1 r2.1 ∧ Below w.heap.size w w'
theorem AllO.store {w : World} {g T n : Nat} {L : List Value} {o0 o1 o2 : OutP} (h : AllO w L o0 o1 o2) (hl : LBlk w g T n) (vs : List Value) (i : Nat) : AllO (w.setCells g i vs) L o0 o1 o2 := by
  have key : ∀ {k o}, PartO w L k o → PartO (w.setCells g i vs) L k o := fun hp => by
    obtain ⟨A, c, B, d, C, e, h1, h2⟩ := hp.ex
    exact ⟨A, c, B, d, C, e, h1, h2.store hl vs i⟩
  exact ⟨h.len, h.one, h.noLab, key h.p0, key h.p1, key h.p2⟩
end Go.Proofs.YtgpmfkedcoiopaaGreatDoor

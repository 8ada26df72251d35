/-
  What is hidden stays hidden behind operators: layer 14, OperHides.
-/
import Derived.Test.YtgpmfkedcoiopaaGreatDoorOpLawE
import Derived.Test.YtgpmfkedcoiopaaGreatDoorM14e
import Derived.Test.YtgpmfkedcoiopaaGreatDoorM14d
namespace Go.Proofs.YtgpmfkedcoiopaaGreatDoor
open Go.RowKit
set_option maxRecDepth 100000
theorem twin_other {S : List UInt8} {l : List RunP} (hg : goodT S l = true) (y : Nat) (O : List UInt8) : Twin S (otherOf S l y O) l y := ⟨hg, by rw [otherOf_good]; exact hg, otherOf_like hg y O⟩
theorem alk_other (X : List UInt8) (m : List RunP) (y : Nat) (O : List UInt8) : Alk y (X, m) (otherOf X m y O, m) := ⟨rfl, (otherOf_good X m y O).symm, fun hg => otherOf_like hg y O⟩
theorem view_bad {S : List UInt8} {l : List RunP} (hg : ¬ goodT S l = true) (y : Nat) : (viewOf S l y).2 ≠ 0 := by
  unfold viewOf
  rw [if_neg hg]
  exact (by decide : (2 : Nat) ≠ 0)
/-- what the operators answer for a text and for another one that is alike -/
structure LowR (y : Nat) (r s : OutP × Nat) : Prop where
  e : s.2 = r.2
  low : LowO y r.1 s.1
theorem low_do (S : List UInt8) (l : List RunP) (y : Nat) (O : List UInt8) (op f t : Int) (b : Bool) : LowR y (doM S l y op f t b) (doM (otherOf S l y O) l y op f t b) := by
  by_cases hg : goodT S l = true
  · have h := hide_do (twin_other hg y O) op f t b
    exact ⟨h.1.symm, h.2⟩
  · have h1 := view_bad hg y
    have h2 : (viewOf (otherOf S l y O) l y).2 ≠ 0 := view_bad (by rw [otherOf_good]; exact hg) y
    have e1 : doM S l y op f t b = (out0, 2) := by unfold doM; dsimp only; rw [if_pos (.inl h1)]
    have e2 : doM (otherOf S l y O) l y op f t b = (out0, 2) := by unfold doM; dsimp only; rw [if_pos (.inl h2)]
    rw [e1, e2]
    exact ⟨rfl, LowO.zero y⟩
theorem low_swap (S : List UInt8) (l : List RunP) (y : Nat) (O : List UInt8) (p n k : Int) : LowR y (swapM S l y p n k) (swapM (otherOf S l y O) l y p n k) := by
  by_cases hg : goodT S l = true
  · have h := hide_swap (twin_other hg y O) p n k
    exact ⟨h.1.symm, h.2⟩
  · have h1 := view_bad hg y
    have h2 : (viewOf (otherOf S l y O) l y).2 ≠ 0 := view_bad (by rw [otherOf_good]; exact hg) y
    have e1 : swapM S l y p n k = (out0, 2) := by unfold swapM; rw [if_pos (by first | exact .inl h1 | exact .inr h1)]
    have e2 : swapM (otherOf S l y O) l y p n k = (out0, 2) := by unfold swapM; rw [if_pos (by first | exact .inl h2 | exact .inr h2)]
    rw [e1, e2]
    exact ⟨rfl, LowO.zero y⟩
theorem low_put (S : List UInt8) (l : List RunP) (X : List UInt8) (m : List RunP) (y : Nat) (O : List UInt8) (p : Int) (b ah : Bool) (n : Int) : LowR y (putM S l y p X m b ah n) (putM (otherOf S l y O) l y p (otherOf X m y O) m b ah n) := by
  by_cases hg : goodT S l = true
  · have h := hide_put (twin_other hg y O) (alk_other X m y O) p b ah n
    exact ⟨h.1.symm, h.2⟩
  · have h1 := view_bad hg y
    have h2 : (viewOf (otherOf S l y O) l y).2 ≠ 0 := view_bad (by rw [otherOf_good]; exact hg) y
    have e1 : putM S l y p X m b ah n = (out0, 2) := by unfold putM; rw [if_pos (.inl h1)]
    have e2 : putM (otherOf S l y O) l y p (otherOf X m y O) m b ah n = (out0, 2) := by unfold putM; rw [if_pos (.inl h2)]
    rw [e1, e2]
    exact ⟨rfl, LowO.zero y⟩
/-- the other text, among other calls -/
theorem refOther_in {wb : World} {A : Option Addr} {c y : Nat} {S O : List UInt8} {l : List RunP} (hy : y < 18446744073709551616) (hO : O.length ≤ maxLen) (h : ∀ w', Below wb.heap.size wb w' → Txu w' A S l) :
    ∀ w', Below wb.heap.size wb w' → Calls Tryz.prog 28 #[.agg #[.string ⟨S.toArray⟩, .slice A l.length c], .int .u64 (y : Nat), .string ⟨O.toArray⟩] w' fun e w'' => e = .returned (.agg #[.string ⟨(otherOf S l y O).toArray⟩, .slice A l.length c]) ∧ Below wb.heap.size wb w'' ∧ Below w'.heap.size w' w'' := by
  intro w' hb
  refine (refTOther_any A c _ S l y hy O hO w' (Nat.le_refl _) (h w' hb)).mono ?_
  rintro e w'' ⟨rfl, bb⟩
  exact ⟨rfl, hb.trans (bb.mono hb.size), bb⟩
theorem job_var {w : World} {g T : Nat} {S : List UInt8} {A : Option Addr} {l : List RunP} {c y : Nat} {op f t : Int} {b : Bool} {p n : Int} {X : List UInt8} {A2 : Option Addr} {m : List RunP} {c2 : Nat} {xb ah : Bool} (h : Blk w g T (jobC S A l c y op f t b p n X A2 m c2 xb ah)) :
    (w.cell? ⟨g, 0, none⟩ = some (.string ⟨S.toArray⟩) ∧ w.cell? ⟨g, 1, none⟩ = some (.slice A l.length c) ∧ w.cell? ⟨g, 9, none⟩ = some (.string ⟨X.toArray⟩) ∧ w.cell? ⟨g, 10, none⟩ = some (.slice A2 m.length c2)) ∧
    w.frozen? ⟨g, 0, none⟩ = false ∧ w.frozen? ⟨g, 1, none⟩ = false ∧ w.frozen? ⟨g, 9, none⟩ = false ∧ w.frozen? ⟨g, 10, none⟩ = false := ⟨⟨h.cell 0, h.cell 1, h.cell 9, h.cell 10⟩, h.frozen 0, h.frozen 1, h.frozen 9, h.frozen 10⟩
theorem job_four {w : World} {g T : Nat} {S : List UInt8} {A : Option Addr} {l : List RunP} {c y : Nat} {op f t : Int} {b : Bool} {p n : Int} {X : List UInt8} {A2 : Option Addr} {m : List RunP} {c2 : Nat} {xb ah : Bool} (h : Blk w g T (jobC S A l c y op f t b p n X A2 m c2 xb ah)) (V Z : List UInt8) :
    Blk ((((w.setCell ⟨g, 0, none⟩ (.string ⟨V.toArray⟩)).setCell ⟨g, 1, none⟩ (.slice A l.length c)).setCell ⟨g, 9, none⟩ (.string ⟨Z.toArray⟩)).setCell ⟨g, 10, none⟩ (.slice A2 m.length c2)) g T (jobC V A l c y op f t b p n Z A2 m c2 xb ah) := by
  have := (((h.set_ 0 (.string ⟨V.toArray⟩)).set_ 1 (.slice A l.length c)).set_ 9 (.string ⟨Z.toArray⟩)).set_ 10 (.slice A2 m.length c2)
  simpa [jobC] using this
/-- the memory of the law, the arrays of the first call there -/
structure HdK (w0 : World) (J J2 : Array Value) (g5 g : Nat) (r0 r1 r2 : OutP × Nat) (wr : World) : Prop where
  job : Blk wr w0.heap.size 38 J
  job2 : Blk wr g5 38 J2
  bel : Below w0.heap.size w0 wr
  arr : ArrK wr g (g + 1) r0 r1 r2
  lo : g + 1 < wr.heap.size
theorem HdK.below {w0 wr w' : World} {J J2 : Array Value} {g5 g : Nat} {r0 r1 r2 : OutP × Nat} (h : HdK w0 J J2 g5 g r0 r1 r2 wr) (hb : Below wr.heap.size wr w') : HdK w0 J J2 g5 g r0 r1 r2 w' :=
  ⟨h.job.below hb h.job.lt, h.job2.below hb h.job2.lt, h.bel.trans (hb.mono h.bel.size), h.arr.below hb (by have := h.lo; omega) h.lo, Nat.lt_of_lt_of_le h.lo hb.size⟩
/-- the arrays of both calls -/
structure HdB (w0 : World) (J J2 : Array Value) (g5 g g2 : Nat) (r0 r1 r2 s0 s1 s2 : OutP × Nat) (wr : World) : Prop where
  one : HdK w0 J J2 g5 g r0 r1 r2 wr
  two : ArrK wr g2 (g2 + 1) s0 s1 s2
  lo : g2 + 1 < wr.heap.size
theorem HdB.below {w0 wr w' : World} {J J2 : Array Value} {g5 g g2 : Nat} {r0 r1 r2 s0 s1 s2 : OutP × Nat} (h : HdB w0 J J2 g5 g g2 r0 r1 r2 s0 s1 s2 wr) (hb : Below wr.heap.size wr w') : HdB w0 J J2 g5 g g2 r0 r1 r2 s0 s1 s2 w' :=
  ⟨h.one.below hb, h.two.below hb (by have := h.lo; omega) h.lo, Nat.lt_of_lt_of_le h.lo hb.size⟩
/-- the law's own answer, among other calls -/
theorem lawOurs_in {wb : World} (ea : Int) (ES : List UInt8) (A4 : Option Addr) (el : List RunP) (c4 : Nat) (EX : List UInt8) (B4 : Option Addr) (em : List RunP) (d4 : Nat) (RS : List UInt8) (C4 : Option Addr) (rl : List RunP) (g4 : Nat) (bl bw : Bool) (ra : Int) :
    ∀ w', Below wb.heap.size wb w' → Calls Tryz.prog 19 #[.agg #[.int .i64 ea, .string ⟨ES.toArray⟩, .slice A4 el.length c4, .string ⟨EX.toArray⟩, .slice B4 em.length d4, .string ⟨RS.toArray⟩, .slice C4 rl.length g4, .bool bl, .bool bw, .int .i64 ra]] w' fun e w'' => e = .returned (.agg #[.int .i64 ea, .string ⟨ES.toArray⟩, .slice A4 el.length c4, .string ⟨EX.toArray⟩, .slice B4 em.length d4, .string ⟨RS.toArray⟩, .slice C4 rl.length g4, .bool bl, .bool bw, .int .i64 ra]) ∧ Below wb.heap.size wb w'' ∧ Below w'.heap.size w' w'' := by
  intro w' hb
  refine (lawOurs_any ea ES A4 el c4 EX B4 em d4 RS C4 rl g4 bl bw ra w').mono ?_
  rintro e w'' ⟨rfl, bb⟩
  exact ⟨rfl, hb.trans (bb.mono hb.size), bb⟩
set_option maxHeartbeats 16000000 in
theorem operHides_walk (w : World) (KS : OperSays w) (S : List UInt8) (A : Option Addr) (l : List RunP) (c y : Nat) (hy : y < 18446744073709551616) (op f t : Int) (hop : -2147483648 ≤ op ∧ op ≤ 2147483647) (hf : -9223372036854775808 ≤ f ∧ f ≤ 9223372036854775807) (ht : -9223372036854775808 ≤ t ∧ t ≤ 9223372036854775807) (b : Bool) (p n : Int) (hp : -9223372036854775808 ≤ p ∧ p ≤ 9223372036854775807) (hn : -9223372036854775808 ≤ n ∧ n ≤ 9223372036854775807) (X : List UInt8) (A2 : Option Addr) (m : List RunP) (c2 : Nat) (xb ah : Bool) (h : Txu w A S l) (hX : Txu w A2 X m) (O : List UInt8) (hO : O.length ≤ maxLen) :
    Calls Tryz.prog 8 #[.agg (jobC S A l c y op f t b p n X A2 m c2 xb ah), .string ⟨O.toArray⟩] w fun e w' => e = .returned (.bool true) ∧ Below w.heap.size w w' := by
  have HS := Lib.hid KS
  have HFJ := Lib.hid (fun wx => lawFitsJ_any S A l c y op f t b p n X A2 m c2 xb ah hX.hS hX.hl wx)
  obtain ⟨V, hV⟩ : ∃ V, otherOf S l y O = V := ⟨_, rfl⟩
  obtain ⟨Z, hZ⟩ : ∃ Z, otherOf X m y O = Z := ⟨_, rfl⟩
  have hVl : V.length = S.length := by rw [← hV, otherOf_len]
  have hZl : Z.length = X.length := by rw [← hZ, otherOf_len]
  have HAL : Hid (fitsJ S l X m = true → (∀ wx, Below w.heap.size w wx → Calls Tryz.prog 24 #[.agg (jobC S A l c y op f t b p n X A2 m c2 xb ah)] wx (GivesAll wx (doM S l y op f t b) (swapM S l y p n op) (putM S l y p X m xb ah n))) ∧
      ∀ wx, Below w.heap.size w wx → Txu wx A V l → Txu wx A2 Z m → Calls Tryz.prog 24 #[.agg (jobC V A l c y op f t b p n Z A2 m c2 xb ah)] wx (GivesAll wx (doM V l y op f t b) (swapM V l y p n op) (putM V l y p Z m xb ah n))) := fun e => by
    unfold fitsJ at e
    simp only [Bool.and_eq_true, decide_eq_true_eq] at e
    exact ⟨fun wx hb => lawAll_any wx (KS.at hb) S A l c y hy op f t hop hf ht b p n hp hn X A2 m c2 xb ah (grow_txu h wx hb) (grow_txu hX wx hb) (by omega) (by omega) (by omega) (by omega),
      fun wx hb h1 h2 => lawAll_any wx (KS.at hb) V A l c y hy op f t hop hf ht b p n hp hn Z A2 m c2 xb ah h1 h2 (by omega) (by omega) (by omega) (by omega)⟩
  have Q0 : Hid (LowR y (doM S l y op f t b) (doM V l y op f t b)) := by show LowR _ _ _; rw [← hV]; exact low_do S l y O op f t b
  have Q1 : Hid (LowR y (swapM S l y p n op) (swapM V l y p n op)) := by show LowR _ _ _; rw [← hV]; exact low_swap S l y O p n op
  have Q2 : Hid (LowR y (putM S l y p X m xb ah n) (putM V l y p Z m xb ah n)) := by show LowR _ _ _; rw [← hV, ← hZ]; exact low_put S l X m y O p xb ah n
  have HAS : Hid (∀ wx, Below w.heap.size w wx → Txu wx A S l) := grow_txu h
  have HAX : Hid (∀ wx, Below w.heap.size w wx → Txu wx A2 X m) := grow_txu hX
  have HVS : Hid (∀ wx, Txu wx A S l → Txu wx A V l) := fun wx k => ⟨by rw [hVl]; exact k.hS, k.hf, k.hl, k.row⟩
  have HZX : Hid (∀ wx, Txu wx A2 X m → Txu wx A2 Z m) := fun wx k => ⟨by rw [hZl]; exact k.hS, k.hf, k.hl, k.row⟩
  have HVV := Lib.hid hV
  have HZZ := Lib.hid hZ
  clear hV hZ hVl hZl
  generalize fitsJ S l X m = fj at *
  generalize doM S l y op f t b = r0 at *
  generalize swapM S l y p n op = r1 at *
  generalize putM S l y p X m xb ah n = r2 at *
  generalize doM V l y op f t b = s0 at *
  generalize swapM V l y p n op = s1 at *
  generalize putM V l y p Z m xb ah n = s2 at *
  go_enter Tryz.func8, Tryz.ntmps8
  go_upto_region 1 with fail
  change Code.wp _ _ _ _ (w.alloc (.cells (jobC S A l c y op f t b p n X A2 m c2 xb ah) 38))
  have b0 : Below w.heap.size w (w.alloc (.cells (jobC S A l c y op f t b p n X A2 m c2 xb ah) 38)) := (Below.refl _ _).alloc (Nat.le_refl _) _
  have Kj := grow_new w 38 (jobC S A l c y op f t b p n X A2 m c2 xb ah)
  have Kb : Grow (w.alloc (.cells (jobC S A l c y op f t b p n X A2 m c2 xb ah) 38)) (fun w' => Below w.heap.size w w') := fun w' hb => b0.trans (hb.mono b0.size)
  have K := Lib.hid (Kj.and Kb)
  clear Kj Kb b0 h hX KS hop hf ht hp hn
  generalize w.alloc (.cells (jobC S A l c y op f t b p n X A2 m c2 xb ah) 38) = wb at *
  go_upto_region 3 with (go_at_call 12; refine (aliveP_any _ (HS.out.at K.out.now.2)).mono ?_; rintro e w1 ⟨rfl, bb⟩; replace K := Lib.hid (K.out.step bb); clear bb)
  obtain ⟨x0, x1, x2, x3, x4, x5, x6, x7, x8, x9, x10, x11, x12⟩ := job_cells K.out.now.1
  cases fj with
  | false =>
    go_wp2_with (go_at_call 15; refine (HFJ.out _).mono ?_; rintro e w2 ⟨rfl, bb⟩; replace K := Lib.hid (K.out.step bb); clear bb)
    go_ret
    exact ⟨rfl, K.out.now.2⟩
  | true =>
    by_cases hol : O.length ≤ 5000
    · have ho1 : decide ((5000 : Int) < (O.length : Int)) = false := decide_eq_false (by omega)
      have ho2 : decide (5000 < O.length) = false := decide_eq_false (by omega)
      obtain ⟨HA, HB⟩ := HAL.out rfl
      have HA := Lib.hid HA
      have HB := Lib.hid HB
      go_upto_region 5 with (go_at_call 15; refine (HFJ.out _).mono ?_; rintro e w2 ⟨rfl, bb⟩; replace K := Lib.hid (K.out.step bb); clear bb x0 x1 x2 x3 x4 x5 x6 x7 x8 x9 x10 x11 x12; obtain ⟨x0, x1, x2, x3, x4, x5, x6, x7, x8, x9, x10, x11, x12⟩ := job_cells K.out.now.1)
      clear HFJ HAL
      go_upto_region 6 with fail
      change Code.wp _ _ _ _ (w2.alloc (.cells (jobC S A l c y op f t b p n X A2 m c2 xb ah) 38))
      have hw2 := (K.out.now.1).lt
      have hbk : Below w2.heap.size w2 (w2.alloc (.cells (jobC S A l c y op f t b p n X A2 m c2 xb ah) 38)) := (Below.refl _ _).alloc (Nat.le_refl _) _
      have AV0 := Lib.hid (Blk.new w2 38 (jobC S A l c y op f t b p n X A2 m c2 xb ah))
      clear x0 x1 x2 x3 x4 x5 x6 x7 x8 x9 x10 x11 x12
      obtain ⟨g5, hg5⟩ : ∃ g5, w2.heap.size = g5 := ⟨_, rfl⟩
      have hle5 : w2.heap.size ≤ g5 := by omega
      rw [hg5] at AV0 ⊢
      have HG5 := Lib.hid hg5
      clear hg5
      generalize w2.alloc (.cells (jobC S A l c y op f t b p n X A2 m c2 xb ah) 38) = wk at *
      have KB : Hid (∀ w', Below w2.heap.size w2 w' → ((w'.cell? ⟨w.heap.size, 0, none⟩ = some (.string ⟨S.toArray⟩) ∧ w'.cell? ⟨w.heap.size, 1, none⟩ = some (.slice A l.length c) ∧ w'.cell? ⟨w.heap.size, 2, none⟩ = some (.int .u64 (y : Nat))) ∧ w'.cell? ⟨w.heap.size, 9, none⟩ = some (.string ⟨X.toArray⟩) ∧ w'.cell? ⟨w.heap.size, 10, none⟩ = some (.slice A2 m.length c2)) ∧ Below w2.heap.size w2 w') := fun w' hb => by
        have h1 := (K.out w' hb).1
        exact ⟨⟨⟨h1.cell 0, h1.cell 1, h1.cell 2⟩, h1.cell 9, h1.cell 10⟩, hb⟩
      have T1 := Lib.hid (refOther_in (wb := w2) (c := c) hy hO (fun w' hb => HAS.out _ (K.out w' hb).2))
      have T2 := Lib.hid (refOther_in (wb := w2) (c := c2) hy hO (fun w' hb => HAX.out _ (K.out w' hb).2))
      rw [HVV.out] at T1
      rw [HZZ.out] at T2
      go_cut [27] (fun s27 wx => s27 = .agg #[.string ⟨V.toArray⟩, .slice A l.length c] ∧ Below w2.heap.size w2 wx ∧ Blk wx g5 38 (jobC V A l c y op f t b p n Z A2 m c2 xb ah))
      case first =>
        go_region_held3 (fun w' => ((w'.cell? ⟨w.heap.size, 0, none⟩ = some (.string ⟨S.toArray⟩) ∧ w'.cell? ⟨w.heap.size, 1, none⟩ = some (.slice A l.length c) ∧ w'.cell? ⟨w.heap.size, 2, none⟩ = some (.int .u64 (y : Nat))) ∧ w'.cell? ⟨w.heap.size, 9, none⟩ = some (.string ⟨X.toArray⟩) ∧ w'.cell? ⟨w.heap.size, 10, none⟩ = some (.slice A2 m.length c2)) ∧ Below w2.heap.size w2 w')
          (first | (refine KB.out _ ?_; (repeat (first | assumption | refine belowT_dr ?_ | refine belowT_al ?_ (Nat.le_refl _) | (refine Below.setCell ?_ ?_ _; rotate_left; (first | focus (simp; done) | focus (simp; omega))))); done))
          (first
            | (go_at_call_of 28 S; refine (T1.out _ ?_).mono ?_; (repeat (first | assumption | refine belowT_dr ?_ | refine belowT_al ?_ (Nat.le_refl _) | (refine Below.setCell ?_ ?_ _; rotate_left; (first | focus (simp; done) | focus (simp; omega))))); rintro e w7 ⟨rfl, hbx, hby⟩; have hzy := hbx.size; refine use_factT (blkT_step (Blk.drew AV0.out) hby) ?_; intro a0; have AV1 := Lib.hid a0; clear a0)
            | (go_at_call_of 28 X; refine (T2.out _ ?_).mono ?_; (repeat (first | assumption | refine belowT_dr ?_ | refine belowT_al ?_ (Nat.le_refl _) | (refine Below.setCell ?_ ?_ _; rotate_left; (first | focus (simp; done) | focus (simp; omega))))); rintro e w8 ⟨rfl, hbz, hbw⟩; have hzw := hbz.size; refine use_factT (blkT_step AV1.out hbw) ?_; intro a0; have AV2 := Lib.hid a0; clear a0; refine use_factT (job_var AV2.out) ?_; intro a1; obtain ⟨⟨u0, u1, u2, u3⟩, u4, u5, u6, u7⟩ := a1))
        all_goals go_wp2_with fail
        all_goals go_meet
        all_goals exact ⟨rfl, by (repeat (first | assumption | refine belowT_dr ?_ | refine belowT_al ?_ (Nat.le_refl _) | (refine Below.setCell ?_ ?_ _; rotate_left; (first | focus (simp; done) | focus (simp; omega))))), job_four AV2.out V Z⟩
      case rest =>
        obtain ⟨rfl, hbc, n5⟩ := hcut
        have KJ := Lib.hid (K.out.step hbc)
        have G5 := Lib.hid n5
        clear hbc n5 KB T1 T2 K
        obtain ⟨x0, x1, x2, x3, x4, x5, x6, x7, x8, x9, x10, x11, x12⟩ := job_cells KJ.out.now.1
        go_upto_region 8 with (first
          | (go_at_call 24; refine (HA.out _ KJ.out.now.2).mono ?_; rintro e w3 ⟨L, rfl, hL, bb⟩; replace KJ := Lib.hid (KJ.out.step bb); replace G5 := Lib.hid (blkT_step G5.out bb); have HL := Lib.hid hL; clear bb hL x0 x1 x2 x3 x4 x5 x6 x7 x8 x9 x10 x11 x12)
          | ((with_reducible refine at_store 56 (.tmp 6) (.tmp 41) ?_); refine wpList_setRow rfl 56 (.tmp 6) (.tmp 41) rfl w3.heap.size L.toArray rfl rfl 56 z30 ((Blk.new w3 56 z30).alloc _) (by rw [out3_facts.2]; simp [HL.out.len]) (by simp [HL.out.len, z30]) HL.out.one ?_; intro w5 k5 hg5; have q5 := two_new (w := w3) (z := z30) (y := e3V 0 0 0) hg5; obtain ⟨b5, e5⟩ := q5; clear hg5)
            | ((with_reducible refine at_store 57 (.tmp 7) (.tmp 42) ?_); refine wpList_setRow rfl 57 (.tmp 7) (.tmp 42) rfl (w3.heap.size + 1) (e3V r0.2 r1.2 r2.2) rfl rfl 57 (e3V 0 0 0) e5 (by rw [err3_facts.2]; rfl) rfl (by simp [e3V, Value.oneCell']) ?_; intro w6 k6 hg6; have b6 : Below w3.heap.size w3 w6 := b5.grown hg6 b5.size (fun j hj => by injection hj with hj; omega); have h6 : Blk w6 w3.heap.size 56 L.toArray := k5.grown hg6 (by omega); clear hg6 k5 e5 b5))
        have KE : Hid (HdK w (jobC S A l c y op f t b p n X A2 m c2 xb ah) (jobC V A l c y op f t b p n Z A2 m c2 xb ah) g5 w3.heap.size r0 r1 r2 w6) := ⟨(KJ.out.step b6).now.1, blkT_step G5.out b6, (KJ.out.step b6).now.2, arrK_of (HL.out.below b6) h6 k6, k6.lt⟩
        clear KJ G5 HL k6 h6 b6 HA
        generalize w3.heap.size = g at *
        generalize w6 = wh at *
        obtain ⟨x0, x1, x2, x3, x4, x5, x6, x7, x8, x9, x10, x11, x12⟩ := job_cells KE.out.job2
        go_upto_region 9 with (first
          | (go_at_call 24; refine (HB.out _ KE.out.bel (HVS.out _ (HAS.out _ KE.out.bel)) (HZX.out _ (HAX.out _ KE.out.bel))).mono ?_; rintro e w4 ⟨L2, rfl, hL, bb⟩; replace KE := Lib.hid (KE.out.below bb); have HL2 := Lib.hid hL; clear bb hL x0 x1 x2 x3 x4 x5 x6 x7 x8 x9 x10 x11 x12)
          | ((with_reducible refine at_store 56 (.tmp 8) (.tmp 46) ?_); refine wpList_setRow rfl 56 (.tmp 8) (.tmp 46) rfl w4.heap.size L2.toArray rfl rfl 56 z30 ((Blk.new w4 56 z30).alloc _) (by rw [out3_facts.2]; simp [HL2.out.len]) (by simp [HL2.out.len, z30]) HL2.out.one ?_; intro w5 k5 hg5; have q5 := two_new (w := w4) (z := z30) (y := e3V 0 0 0) hg5; obtain ⟨b5, e5⟩ := q5; clear hg5)
            | ((with_reducible refine at_store 57 (.tmp 9) (.tmp 47) ?_); refine wpList_setRow rfl 57 (.tmp 9) (.tmp 47) rfl (w4.heap.size + 1) (e3V s0.2 s1.2 s2.2) rfl rfl 57 (e3V 0 0 0) e5 (by rw [err3_facts.2]; rfl) rfl (by simp [e3V, Value.oneCell']) ?_; intro w6 k6 hg6; have b6 : Below w4.heap.size w4 w6 := b5.grown hg6 b5.size (fun j hj => by injection hj with hj; omega); have h6 : Blk w6 w4.heap.size 56 L2.toArray := k5.grown hg6 (by omega); clear hg6 k5 e5 b5))
        have KF : Hid (HdB w (jobC S A l c y op f t b p n X A2 m c2 xb ah) (jobC V A l c y op f t b p n Z A2 m c2 xb ah) g5 g w4.heap.size r0 r1 r2 s0 s1 s2 w6) := ⟨KE.out.below b6, arrK_of (HL2.out.below b6) h6 k6, k6.lt⟩
        clear KE HL2 k6 h6 b6 HB
        generalize w4.heap.size = g2 at *
        have HQ : Hid (∀ k, k < 3 → LowR y (rr r0 r1 r2 k) (rr s0 s1 s2 k)) := fun k hk => by
          match k, hk with
          | 0, _ => exact Q0.out
          | 1, _ => exact Q1.out
          | 2, _ => exact Q2.out
        clear Q0 Q1 Q2 HVS HZX HAS HAX
        go_upto_region 10 with fail
        go_loopw [48] (fun i wr => ∃ k : Nat, k ≤ 3 ∧ i = .int .i64 k ∧ Hid (HdB w (jobC S A l c y op f t b p n X A2 m c2 xb ah) (jobC V A l c y op f t b p n Z A2 m c2 xb ah) g5 g g2 r0 r1 r2 s0 s1 s2 wr)) (fun i _ => 3 - (intOf i).toNat)
        case atStart => exact ⟨0, by omega, rfl, KF⟩
        case round =>
          clear KF
          obtain ⟨k, hk, rfl, KF⟩ := hrel
          by_cases hlt : k < 3
          · have hlt' : (k : Int) < 3 := by omega
            have hk0 : (0 : Int) ≤ (k : Int) := by omega
            have KQ := Lib.hid (HQ.out k hlt)
            obtain ⟨ZA, zc, ZB, zd, ZC, ze, hat⟩ := KF.out.one.arr.at_ k hlt
            have her := KF.out.one.arr.er k hlt
            obtain ⟨YA, yc, YB, yd, YC, ye, hau⟩ := KF.out.two.at_ k hlt
            have hfr := KF.out.two.er k hlt
            obtain ⟨o, ho⟩ : ∃ o, rr r0 r1 r2 k = o := ⟨_, rfl⟩
            obtain ⟨u, hu⟩ : ∃ u, rr s0 s1 s2 k = u := ⟨_, rfl⟩
            rw [ho] at hat her
            rw [hu] at hau hfr
            rw [ho, hu] at KQ
            clear ho hu
            obtain ⟨⟨⟨ea, ES, el, EX, em⟩, RS, rl, bl, bw, ra⟩, rn⟩ := o
            obtain ⟨⟨⟨ea2, ES2, el2, EX2, em2⟩, RS2, rl2, bl2, bw2, ra2⟩, rn2⟩ := u
            obtain ⟨he, ⟨ha, l1, l2⟩, l3, hb1, hb2, hb3⟩ := KQ.out
            dsimp only at he ha l1 l2 l3 hb1 hb2 hb3
            subst he ha hb1 hb2 hb3
            have HLW := Lib.hid (And.intro l1 (And.intro l2 l3))
            have e1 : wr.cell? ⟨g + 1, k, none⟩ = some (.int .i64 (rn2 : Nat)) := her
            have e2 : wr.cell? ⟨g2 + 1, k, none⟩ = some (.int .i64 (rn2 : Nat)) := hfr
            clear her hfr l1 l2 l3 KQ
            have HAT := Lib.hid hat
            have HAU := Lib.hid hau
            clear hat hau
            have hnn : ((rn2 : Int) != (rn2 : Int)) = false := by simp
            have hb0 : Below wr.heap.size wr wr := Below.refl _ _
            have KB : Hid (∀ w', Below wr.heap.size wr w' → ((w'.cell? ⟨g + 1, k, none⟩ = some (.int .i64 (rn2 : Nat)) ∧ w'.cell? ⟨g2 + 1, k, none⟩ = some (.int .i64 (rn2 : Nat)) ∧ w'.cell? ⟨w.heap.size, 2, none⟩ = some (.int .u64 (y : Nat))) ∧ (w'.cell? ⟨g, k * 10, none⟩ = some (.int .i64 ea) ∧ w'.cell? ⟨g, k * 10 + 1, none⟩ = some (.string ⟨ES.toArray⟩) ∧ w'.cell? ⟨g, k * 10 + 2, none⟩ = some (.slice ZA el.length zc) ∧ w'.cell? ⟨g, k * 10 + 3, none⟩ = some (.string ⟨EX.toArray⟩) ∧ w'.cell? ⟨g, k * 10 + 4, none⟩ = some (.slice ZB em.length zd) ∧ w'.cell? ⟨g, k * 10 + 5, none⟩ = some (.string ⟨RS.toArray⟩) ∧ w'.cell? ⟨g, k * 10 + 6, none⟩ = some (.slice ZC rl.length ze) ∧ w'.cell? ⟨g, k * 10 + 7, none⟩ = some (.bool bl) ∧ w'.cell? ⟨g, k * 10 + 8, none⟩ = some (.bool bw) ∧ w'.cell? ⟨g, k * 10 + 9, none⟩ = some (.int .i64 ra)) ∧ (w'.cell? ⟨g2, k * 10, none⟩ = some (.int .i64 ea) ∧ w'.cell? ⟨g2, k * 10 + 1, none⟩ = some (.string ⟨ES2.toArray⟩) ∧ w'.cell? ⟨g2, k * 10 + 2, none⟩ = some (.slice YA el2.length yc) ∧ w'.cell? ⟨g2, k * 10 + 3, none⟩ = some (.string ⟨EX2.toArray⟩) ∧ w'.cell? ⟨g2, k * 10 + 4, none⟩ = some (.slice YB em2.length yd) ∧ w'.cell? ⟨g2, k * 10 + 5, none⟩ = some (.string ⟨RS2.toArray⟩) ∧ w'.cell? ⟨g2, k * 10 + 6, none⟩ = some (.slice YC rl2.length ye) ∧ w'.cell? ⟨g2, k * 10 + 7, none⟩ = some (.bool bl) ∧ w'.cell? ⟨g2, k * 10 + 8, none⟩ = some (.bool bw) ∧ w'.cell? ⟨g2, k * 10 + 9, none⟩ = some (.int .i64 ra))) ∧ Below wr.heap.size wr w') := fun w' hb => by
              have h0 := (KF.out.below hb).one.job
              have h1 := HAT.out.below hb (by have := KF.out.one.lo; omega)
              have h2 := HAU.out.below hb (by have := KF.out.lo; omega)
              have f1 := World.cell?_of_block (a := ⟨g + 1, k, none⟩) (hb.block (g + 1) KF.out.one.lo)
              have f2 := World.cell?_of_block (a := ⟨g2 + 1, k, none⟩) (hb.block (g2 + 1) KF.out.lo)
              exact ⟨⟨⟨f1.trans e1, f2.trans e2, h0.cell 2⟩, ⟨h1.cells 0 _ rfl, h1.cells 1 _ rfl, h1.cells 2 _ rfl, h1.cells 3 _ rfl, h1.cells 4 _ rfl, h1.cells 5 _ rfl, h1.cells 6 _ rfl, h1.cells 7 _ rfl, h1.cells 8 _ rfl, h1.cells 9 _ rfl⟩, h2.cells 0 _ rfl, h2.cells 1 _ rfl, h2.cells 2 _ rfl, h2.cells 3 _ rfl, h2.cells 4 _ rfl, h2.cells 5 _ rfl, h2.cells 6 _ rfl, h2.cells 7 _ rfl, h2.cells 8 _ rfl, h2.cells 9 _ rfl⟩, hb⟩
            clear e1 e2
            have TO1 := Lib.hid (lawOurs_in (wb := wr) ea ES ZA el zc EX ZB em zd RS ZC rl ze bl bw ra)
            have TO2 := Lib.hid (lawOurs_in (wb := wr) ea ES2 YA el2 yc EX2 YB em2 yd RS2 YC rl2 ye bl bw ra)
            have TLW : Hid (∀ w', Below wr.heap.size wr w' → Calls Tryz.prog 29 #[.agg #[.int .i64 ea, .string ⟨ES.toArray⟩, .slice ZA el.length zc, .string ⟨EX.toArray⟩, .slice ZB em.length zd, .string ⟨RS.toArray⟩, .slice ZC rl.length ze, .bool bl, .bool bw, .int .i64 ra], .agg #[.int .i64 ea, .string ⟨ES2.toArray⟩, .slice YA el2.length yc, .string ⟨EX2.toArray⟩, .slice YB em2.length yd, .string ⟨RS2.toArray⟩, .slice YC rl2.length ye, .bool bl, .bool bw, .int .i64 ra], .int .u64 (y : Nat)] w' fun e w'' => e = .returned (.bool true) ∧ Below wr.heap.size wr w'' ∧ Below w'.heap.size w' w'') := fun w' hb => by
              have h1 := (HAT.out.below hb (by have := KF.out.one.lo; omega)).tx
              have h2 := (HAU.out.below hb (by have := KF.out.lo; omega)).tx
              refine (refPLow_any ZA ZB ZC YA YB YC zc zd ze yc yd ye ea ES ES2 el el2 EX EX2 em em2 RS RS2 rl rl2 bl bw ra y hy w' HLW.out.1 HLW.out.2.1 HLW.out.2.2 h1.s h1.x h1.r h2.s h2.x h2.r).mono ?_
              rintro e w'' ⟨rfl, bb⟩
              exact ⟨rfl, hb.trans (bb.mono hb.size), bb⟩
            go_upto_region 12 with fail
            go_cut [71] (fun s71 wx => s71 = .bool false ∧ Below wr.heap.size wr wx)
            case first =>
              go_region_held3 (fun w' => ((w'.cell? ⟨g + 1, k, none⟩ = some (.int .i64 (rn2 : Nat)) ∧ w'.cell? ⟨g2 + 1, k, none⟩ = some (.int .i64 (rn2 : Nat)) ∧ w'.cell? ⟨w.heap.size, 2, none⟩ = some (.int .u64 (y : Nat))) ∧ (w'.cell? ⟨g, k * 10, none⟩ = some (.int .i64 ea) ∧ w'.cell? ⟨g, k * 10 + 1, none⟩ = some (.string ⟨ES.toArray⟩) ∧ w'.cell? ⟨g, k * 10 + 2, none⟩ = some (.slice ZA el.length zc) ∧ w'.cell? ⟨g, k * 10 + 3, none⟩ = some (.string ⟨EX.toArray⟩) ∧ w'.cell? ⟨g, k * 10 + 4, none⟩ = some (.slice ZB em.length zd) ∧ w'.cell? ⟨g, k * 10 + 5, none⟩ = some (.string ⟨RS.toArray⟩) ∧ w'.cell? ⟨g, k * 10 + 6, none⟩ = some (.slice ZC rl.length ze) ∧ w'.cell? ⟨g, k * 10 + 7, none⟩ = some (.bool bl) ∧ w'.cell? ⟨g, k * 10 + 8, none⟩ = some (.bool bw) ∧ w'.cell? ⟨g, k * 10 + 9, none⟩ = some (.int .i64 ra)) ∧ (w'.cell? ⟨g2, k * 10, none⟩ = some (.int .i64 ea) ∧ w'.cell? ⟨g2, k * 10 + 1, none⟩ = some (.string ⟨ES2.toArray⟩) ∧ w'.cell? ⟨g2, k * 10 + 2, none⟩ = some (.slice YA el2.length yc) ∧ w'.cell? ⟨g2, k * 10 + 3, none⟩ = some (.string ⟨EX2.toArray⟩) ∧ w'.cell? ⟨g2, k * 10 + 4, none⟩ = some (.slice YB em2.length yd) ∧ w'.cell? ⟨g2, k * 10 + 5, none⟩ = some (.string ⟨RS2.toArray⟩) ∧ w'.cell? ⟨g2, k * 10 + 6, none⟩ = some (.slice YC rl2.length ye) ∧ w'.cell? ⟨g2, k * 10 + 7, none⟩ = some (.bool bl) ∧ w'.cell? ⟨g2, k * 10 + 8, none⟩ = some (.bool bw) ∧ w'.cell? ⟨g2, k * 10 + 9, none⟩ = some (.int .i64 ra))) ∧ Below wr.heap.size wr w')
                (first | (refine KB.out _ ?_; (repeat (first | assumption | refine belowT_dr ?_ | refine belowT_al ?_ (Nat.le_refl _) | (refine Below.setCell ?_ ?_ _; rotate_left; (first | focus (simp; done) | focus (simp; omega))))); done))
                (first
                  | (go_at_call_of 19 ES; refine (TO1.out _ ?_).mono ?_; (repeat (first | assumption | refine belowT_dr ?_ | refine belowT_al ?_ (Nat.le_refl _) | (refine Below.setCell ?_ ?_ _; rotate_left; (first | focus (simp; done) | focus (simp; omega))))); rintro e w7 ⟨rfl, hbx, hby⟩; have hzy := hbx.size)
                  | (go_at_call_of 19 ES2; refine (TO2.out _ ?_).mono ?_; (repeat (first | assumption | refine belowT_dr ?_ | refine belowT_al ?_ (Nat.le_refl _) | (refine Below.setCell ?_ ?_ _; rotate_left; (first | focus (simp; done) | focus (simp; omega))))); rintro e w8 ⟨rfl, hbx2, hby2⟩; have hzy2 := hbx2.size)
                  | (go_at_call 29; refine (TLW.out _ ?_).mono ?_; (repeat (first | assumption | refine belowT_dr ?_ | refine belowT_al ?_ (Nat.le_refl _) | (refine Below.setCell ?_ ?_ _; rotate_left; (first | focus (simp; done) | focus (simp; omega))))); rintro e w9 ⟨rfl, hbx3, hby3⟩; have hzy3 := hbx3.size))
              all_goals go_wp2_with fail
              all_goals go_meet
              all_goals exact ⟨rfl, by (repeat (first | assumption | refine belowT_dr ?_ | refine belowT_al ?_ (Nat.le_refl _) | (refine Below.setCell ?_ ?_ _; rotate_left; (first | focus (simp; done) | focus (simp; omega)))))⟩
            case rest =>
              obtain ⟨rfl, hbc⟩ := hcut
              have KG := Lib.hid (KF.out.below hbc)
              clear KF KB TO1 TO2 TLW HAT HAU hbc hb0
              go_wp2_with fail
              go_roundw
              case rel => exact ⟨k + 1, by omega, by go_num, KG⟩
              case measure => simp [intOf]; omega
          · have hlt' : ¬ (k : Int) < 3 := by omega
            go_wp2_with fail
            go_ret
            exact ⟨rfl, KF.out.one.bel⟩
    · have ho1 : decide ((5000 : Int) < (O.length : Int)) = true := decide_eq_true (by omega)
      have ho2 : decide (5000 < O.length) = true := decide_eq_true (by omega)
      go_wp2_with (go_at_call 15; refine (HFJ.out _).mono ?_; rintro e w2 ⟨rfl, bb⟩; replace K := Lib.hid (K.out.step bb); clear bb)
      go_ret
      exact ⟨rfl, K.out.now.2⟩
end Go.Proofs.YtgpmfkedcoiopaaGreatDoor

/-
  What d takes on the way of a motion is what lies on it: layer 14, WholeGoes.
-/
import Derived.Test.YtgpmfkedcoiopaaGreatDoorOpTopM
import Derived.Test.YtgpmfkedcoiopaaGreatDoorM14e
import Derived.Test.YtgpmfkedcoiopaaGreatDoorMvSays
import Derived.Test.YtgpmfkedcoiopaaGreatDoorM07e
import Derived.Test.YtgpmfkedcoiopaaGreatDoorM04o
namespace Go.Proofs.YtgpmfkedcoiopaaGreatDoor
open Go.RowKit
set_option maxRecDepth 100000
/-- what package oper answers, of it what is wanted here -/
structure OperDS (w0 : World) : Prop where
  span : ∀ (S : List UInt8) (p q k : Int) (w : World), Below w0.heap.size w0 w → S.length ≤ 4096 → (-9223372036854775808 ≤ p ∧ p ≤ 9223372036854775807) → (-9223372036854775808 ≤ q ∧ q ≤ 9223372036854775807) → (-9223372036854775808 ≤ k ∧ k ≤ 9223372036854775807) →
    Calls Tryz.prog 13 #[.string ⟨S.toArray⟩, .int .i64 p, .int .i64 q, .int .i64 k] w fun e w' => e = .returned (.agg #[.int .i64 (spanM S p q k).1, .int .i64 (spanM S p q k).2.1, .bool (spanM S p q k).2.2]) ∧ Below w.heap.size w w'
  do_ : ∀ (A : Option Addr) (c : Nat) (S : List UInt8) (l : List RunP) (y : Nat) (op f t : Int) (b : Bool) (w : World), Below w0.heap.size w0 w → Txu w A S l → S.length ≤ 5000 → l.length ≤ 5000 → y < 18446744073709551616 → (-2147483648 ≤ op ∧ op ≤ 2147483647) → (-9223372036854775808 ≤ f ∧ f ≤ 9223372036854775807) → (-9223372036854775808 ≤ t ∧ t ≤ 9223372036854775807) →
    Calls Tryz.prog 16 #[.agg #[.string ⟨S.toArray⟩, .slice A l.length c], .int .u64 (y : Nat), .int .i32 op, .agg #[.int .i64 f, .int .i64 t, .bool b]] w (GivesO w (doM S l y op f t b))
theorem alG_1 : spanM [97, 98, 32, 99, 100] 0 3 0 = (0, 3, false) := by decide +kernel
theorem alG_2 : (doM [97, 98, 32, 99, 100] [(1, 5)] 1 100 0 3 false).2 = 0 ∧ (doM [97, 98, 32, 99, 100] [(1, 5)] 1 100 0 3 false).1.RS = [97, 98, 32] ∧ (doM [97, 98, 32, 99, 100] [(1, 5)] 1 100 0 3 false).1.at_ = 0 := by decide +kernel
theorem noLab_out0 : NoLab #[.int .i64 0, .string ⟨#[]⟩, .slice none 0 0, .string ⟨#[]⟩, .slice none 0 0, .string ⟨#[]⟩, .slice none 0 0, .bool false, .bool false, .int .i64 0] := by
  intro v hv n
  simp at hv
  repeat (rcases hv with rfl | hv; focus simp)
  try (subst hv; simp)
theorem go_cells {w : World} {g T : Nat} {S : List UInt8} {A : Option Addr} {l : List RunP} {c y : Nat} {p k a n op : Int} (h : Blk w g T #[.string ⟨S.toArray⟩, .slice A l.length c, .int .u64 (y : Nat), .int .i64 p, .int .i32 k, .int .i32 a, .int .i64 n, .int .i32 op]) :
    w.cell? ⟨g, 0, none⟩ = some (.string ⟨S.toArray⟩) ∧ w.cell? ⟨g, 1, none⟩ = some (.slice A l.length c) ∧ w.cell? ⟨g, 2, none⟩ = some (.int .u64 (y : Nat)) ∧ w.cell? ⟨g, 3, none⟩ = some (.int .i64 p) ∧ w.cell? ⟨g, 4, none⟩ = some (.int .i32 k) ∧ w.cell? ⟨g, 5, none⟩ = some (.int .i32 a) ∧ w.cell? ⟨g, 6, none⟩ = some (.int .i64 n) := ⟨h.cell 0, h.cell 1, h.cell 2, h.cell 3, h.cell 4, h.cell 5, h.cell 6⟩
theorem lawFitsG_any (A : Option Addr) (c : Nat) (S : List UInt8) (l : List RunP) (w : World) :
    Calls Tryz.prog 33 #[.agg #[.string ⟨S.toArray⟩, .slice A l.length c]] w fun e w' => e = .returned (.bool (decide (S.length ≤ 1024) && decide (l.length ≤ 5000))) ∧ Below w.heap.size w w' := by
  by_cases h1 : S.length ≤ 1024
  · have g1 : decide ((S.length : Int) ≤ 1024) = true := decide_eq_true (by omega)
    have HE : Hid ((decide (S.length ≤ 1024) && decide (l.length ≤ 5000)) = decide ((l.length : Int) ≤ 5000)) := by
      rw [Hid, decide_eq_true h1, Bool.true_and]
      exact decide_eq_decide.2 (by omega)
    go_enter Tryz.func33, Tryz.ntmps33
    go_wp2_with fail
    go_ret
    exact ⟨by rw [HE.out]; simp, (Below.refl _ _).alloc (Nat.le_refl _) _⟩
  · have g1 : decide ((S.length : Int) ≤ 1024) = false := decide_eq_false (by omega)
    have HE : Hid ((decide (S.length ≤ 1024) && decide (l.length ≤ 5000)) = false) := by rw [Hid, decide_eq_false h1]; rfl
    go_enter Tryz.func33, Tryz.ntmps33
    go_wp2_with fail
    go_ret
    exact ⟨by rw [HE.out]; rfl, (Below.refl _ _).alloc (Nat.le_refl _) _⟩
theorem wp_setMidG {P : Program} {op : Oper} {a : Act} {w : World} {K : Act → World → Prop} {Q : Exit → Act → World → Prop} (ty : TypeId) (x y : Operand) (ho : op.op = .store ty x y)
    (g k : Nat) (vs : List Value) (hx : a.eval x = .pointer (some ⟨g, k, none⟩)) (hy : a.eval y = .agg vs.toArray) (ht : w.there g k vs.length) (hi : (P.info? ty).map (·.size) = some vs.length) (h1 : vs.toArray.all (·.oneCell') = true)
    (h : ∀ w', Hid (w' = w.setCells g k vs) → K (a.put op.dst undef) w') : op.wp P a w K Q :=
  wp_store_mid ty x y ho g k vs.toArray hx hy (by simpa using ht) (by simpa using hi) h1 (by simpa using h _ (Lib.hid rfl))
theorem rngG_cells {w : World} {g T : Nat} {f t : Int} {b : Bool} (h : Blk w g T #[.int .i64 f, .int .i64 t, .bool b]) : w.cell? ⟨g, 0, none⟩ = some (.int .i64 f) ∧ w.cell? ⟨g, 1, none⟩ = some (.int .i64 t) ∧ w.cell? ⟨g, 2, none⟩ = some (.bool b) := ⟨h.cell 0, h.cell 1, h.cell 2⟩
theorem grow_outTx {wx : World} {o : OutP} {A B C : Option Addr} (h : OutTx wx o A B C) : Grow wx (fun w' => OutTx w' o A B C) := fun _ hb => h.below hb
theorem out_sizeG : (Tryz.prog.info? 43).map (·.size) = some 10 := by kernel_rfl
set_option maxHeartbeats 16000000 in
theorem wholeGoes_walk (w : World) (DS : OperDS w) (MS : MoveSays w) (S : List UInt8) (A : Option Addr) (l : List RunP) (c y : Nat) (hy : y < 18446744073709551616) (p k a n op : Int) (hp : -9223372036854775808 ≤ p ∧ p ≤ 9223372036854775807) (hk : -2147483648 ≤ k ∧ k ≤ 2147483647) (ha : -2147483648 ≤ a ∧ a ≤ 2147483647) (hn : -9223372036854775808 ≤ n ∧ n ≤ 9223372036854775807) (h : Txu w A S l) :
    Calls Tryz.prog 11 #[.agg #[.string ⟨S.toArray⟩, .slice A l.length c, .int .u64 (y : Nat), .int .i64 p, .int .i32 k, .int .i32 a, .int .i64 n, .int .i32 op]] w fun e w' => e = .returned (.bool true) ∧ Below w.heap.size w w' := by
  obtain ⟨d1, d2, d3⟩ := alG_2
  have HOK0 := okO_do (S := [97, 98, 32, 99, 100]) (l := [(1, 5)]) (y := 1) (by intro r hr; simp at hr; subst hr; simp) (by decide) 100 0 3 false
  have HSP0 := fun wx (hb : Below w.heap.size w wx) => DS.span [97, 98, 32, 99, 100] 0 3 0 wx hb (by decide) (by decide) (by decide) (by decide)
  rw [alG_1] at HSP0
  have HDO0 := fun wx (hb : Below w.heap.size w wx) A0 c0 h1 => DS.do_ A0 c0 [97, 98, 32, 99, 100] [(1, 5)] 1 100 0 3 false wx hb h1 (by decide) (by decide) (by decide) (by decide) (by decide) (by decide)
  obtain ⟨r0, hr0⟩ : ∃ r, doM [97, 98, 32, 99, 100] [(1, 5)] 1 100 0 3 false = r := ⟨_, rfl⟩
  rw [hr0] at d1 d2 d3 HOK0 HDO0
  clear hr0
  obtain ⟨⟨⟨ea, ES, el, EX, em⟩, RS, rl, bl, bw, ra⟩, rn⟩ := r0
  have d1 : rn = 0 := d1
  have d2 : RS = [97, 98, 32] := d2
  have d3 : ra = 0 := d3
  subst d1 d2 d3
  clear d1 d2 d3
  have HD := Lib.hid DS
  have HM := Lib.hid MS
  have HAS : Hid (∀ wx, Below w.heap.size w wx → Txu wx A S l) := grow_txu h
  have HFF := Lib.hid h.hf
  go_enter Tryz.func11, Tryz.ntmps11
  go_upto_region 1 with fail
  have b0 : Below w.heap.size w (w.alloc (.cells #[.string ⟨S.toArray⟩, .slice A l.length c, .int .u64 (y : Nat), .int .i64 p, .int .i32 k, .int .i32 a, .int .i64 n, .int .i32 op] 75)) := (Below.refl _ _).alloc (Nat.le_refl _) _
  have Kj := grow_new w 75 #[.string ⟨S.toArray⟩, .slice A l.length c, .int .u64 (y : Nat), .int .i64 p, .int .i32 k, .int .i32 a, .int .i64 n, .int .i32 op]
  have K := Lib.hid (Kj.and (grow_bel b0))
  clear Kj b0 h DS MS
  generalize w.alloc (.cells #[.string ⟨S.toArray⟩, .slice A l.length c, .int .u64 (y : Nat), .int .i64 p, .int .i32 k, .int .i32 a, .int .i64 n, .int .i32 op] 75) = wb at *
  have TX : Hid (Txu (wb.alloc (.cells #[.int .u64 1, .int .i64 5] 77)) (some ⟨wb.heap.size, 0, none⟩) [97, 98, 32, 99, 100] [(1, 5)]) := ⟨by unfold maxLen; decide, by intro r hr; simp at hr; subst hr; simp, by unfold maxLen; decide, by have := row_newL wb 77 [.int .u64 1, .int .i64 5]; simpa [flatR] using this⟩
  go_upto_region 2 with fail
  have Kt := grow_new (wb.alloc (.cells #[.int .u64 1, .int .i64 5] 77)) 32 #[.string ⟨#[97, 98, 32, 99, 100]⟩, .slice (some ⟨wb.heap.size, 0, none⟩) 1 1]
  rw [World.size_alloc] at Kt
  have Kx := Grow.alloc (grow_txu TX.out) (.cells #[.string ⟨#[97, 98, 32, 99, 100]⟩, .slice (some ⟨wb.heap.size, 0, none⟩) 1 1] 32)
  replace K := Lib.hid (((K.out.alloc (.cells #[.int .u64 1, .int .i64 5] 77)).alloc (.cells #[.string ⟨#[97, 98, 32, 99, 100]⟩, .slice (some ⟨wb.heap.size, 0, none⟩) 1 1] 32)).and (Kt.and Kx))
  clear Kt Kx TX
  generalize (wb.alloc (.cells #[.int .u64 1, .int .i64 5] 77)).alloc (.cells #[.string ⟨#[97, 98, 32, 99, 100]⟩, .slice (some ⟨wb.heap.size, 0, none⟩) 1 1] 32) = wd at *
  generalize wb.heap.size + 1 = g0 at *
  generalize wb.heap.size = gr at *
  have KS2 : Hid (∀ w', Below wd.heap.size wd w' → w'.cell? ⟨g0, 0, none⟩ = some (.string ⟨#[97, 98, 32, 99, 100]⟩) ∧ w'.cell? ⟨g0, 1, none⟩ = some (.slice (some ⟨gr, 0, none⟩) 1 1)) := fun w' hb => txt_cells (K.out w' hb).2.1
  have HSP : Hid (∀ w', Below wd.heap.size wd w' → Calls Tryz.prog 13 #[.string ⟨#[97, 98, 32, 99, 100]⟩, .int .i64 0, .int .i64 3, .int .i64 0] w' fun e w'' => e = .returned (.agg #[.int .i64 0, .int .i64 3, .bool false]) ∧ Below w'.heap.size w' w'') := fun w' hb => HSP0 w' (K.out w' hb).1.2
  have HDO : Hid (∀ w', Below wd.heap.size wd w' → Calls Tryz.prog 16 #[.agg #[.string ⟨#[97, 98, 32, 99, 100]⟩, .slice (some ⟨gr, 0, none⟩) 1 1], .int .u64 1, .int .i32 100, .agg #[.int .i64 0, .int .i64 3, .bool false]] w' (GivesO w' (⟨⟨ea, ES, el, EX, em⟩, [97, 98, 32], rl, bl, bw, 0⟩, 0))) := fun w' hb => HDO0 w' (K.out w' hb).1.2 _ _ (K.out w' hb).2.2
  clear HSP0 HDO0
  have HOK := Lib.hid HOK0
  clear HOK0
  have hb0 : Below wd.heap.size wd wd.drew := below_drewN (Below.refl _ _) 1
  go_cut [4, 5] (fun s4 s5 wx => ∃ g4, s4 = .pointer (some ⟨g4, 0, none⟩) ∧ s5 = .int .i64 0 ∧ Below wd.heap.size wd wx ∧ wx.cell? ⟨g4, 5, none⟩ = some (.string ⟨#[97, 98, 32]⟩) ∧ wx.cell? ⟨g4, 9, none⟩ = some (.int .i64 0))
  case first =>
    refine wp_region_held_drew (S := fun w' => w'.cell? ⟨g0, 0, none⟩ = some (.string ⟨#[97, 98, 32, 99, 100]⟩) ∧ w'.cell? ⟨g0, 1, none⟩ = some (.slice (some ⟨gr, 0, none⟩) 1 1)) (by kernel_rfl) (KS2.out _ hb0) (fun hHeld => ?_)
    refine wpAnyH_take (i := 0) (v := ?_) rfl (by kernel_rfl) (by kernel_rfl) (by kernel_rfl) (fun _ _ _ h => h) (Or.inl ⟨by rfl, ?_⟩) (by assumption) ?_
    rotate_left
    · (intro w hSw; obtain ⟨q0, q1⟩ := hSw; go_simp; (try with_reducible rfl))
    (try simp only [List.getElem_toArray, List.getElem_cons_zero, Act.put, List.setIfInBounds_toArray, List.set_cons_zero, List.set_cons_succ])
    refine wpAnyH_take (i := 1) (v := ?_) rfl (by kernel_rfl) (by kernel_rfl) (by kernel_rfl) (fun _ _ _ h => h) (Or.inl ⟨by rfl, ?_⟩) (by assumption) ?_
    rotate_left
    · (intro w hSw; obtain ⟨q0, q1⟩ := hSw; go_simp; (try with_reducible rfl))
    (try simp only [List.getElem_toArray, List.getElem_cons_zero, List.getElem_cons_succ, Act.put, List.setIfInBounds_toArray, List.set_cons_zero, List.set_cons_succ])
    refine wpAnyH_take (i := 2) (v := ?_) rfl (by kernel_rfl) (by kernel_rfl) (by kernel_rfl) (fun _ _ _ h => h) (Or.inl ⟨by rfl, ?_⟩) (by assumption) ?_
    rotate_left
    · (intro w hSw; obtain ⟨q0, q1⟩ := hSw; go_simp; (try with_reducible rfl))
    (try simp only [List.getElem_toArray, List.getElem_cons_zero, List.getElem_cons_succ, Act.put, List.setIfInBounds_toArray, List.set_cons_zero, List.set_cons_succ])
    refine wpAnyH_ready (rs := [3, 8]) (by kernel_rfl) (by simp) ?_
    refine AllReadyH.cons rfl (fun K hK => ?_) (AllReadyH.cons rfl (fun K hK => ?_) AllReadyH.nil)
    · go_simp
      refine (HSP.out _ hb0).mono ?_
      rintro ee v1 ⟨rfl, bbx1⟩
      have hb1 : Below wd.heap.size wd v1 := hb0.trans (bbx1.mono hb0.size)
      (try go_wp2_with fail)
      refine hK.out _ _ (KS2.out _ hb1) (fun hHeld => ?_)
      clear hK K
      (try simp only [List.getElem_toArray, List.getElem_cons_zero, List.getElem_cons_succ, Act.put, List.setIfInBounds_toArray, List.set_cons_zero, List.set_cons_succ])
      refine wpAnyH_ready (rs := [4, 8]) (by kernel_rfl) (by simp) ?_
      refine AllReadyH.cons rfl (fun K hK => ?_) (AllReadyH.cons rfl (fun K hK => ?_) AllReadyH.nil)
      · go_simp
        refine (HDO.out _ hb1).mono ?_
        rintro ee v2 ⟨A4, c4, B4, d4, C4, e4, rfl, rA, rB, rC, bbx2⟩
        have hb2 : Below wd.heap.size wd v2 := hb1.trans (bbx2.mono hb1.size)
        clear rA rB rC
        (try go_wp2_with fail)
        refine hK.out _ _ (KS2.out _ hb2) (fun hHeld => ?_)
        clear hK K
        (try simp only [List.getElem_toArray, List.getElem_cons_zero, List.getElem_cons_succ, Act.put, List.setIfInBounds_toArray, List.set_cons_zero, List.set_cons_succ])
        refine wpAnyH_take (i := 5) (v := ?_) rfl (by kernel_rfl) (by kernel_rfl) (by kernel_rfl) (fun _ _ _ h => h) (Or.inl ⟨by rfl, ?_⟩) (by assumption) ?_
        rotate_left
        · (intro w hSw; obtain ⟨q0, q1⟩ := hSw; go_simp; (try with_reducible rfl))
        (try simp only [List.getElem_toArray, List.getElem_cons_zero, List.getElem_cons_succ, Act.put, List.setIfInBounds_toArray, List.set_cons_zero, List.set_cons_succ])
        refine wpAnyH_take (i := 6) (v := ?_) rfl (by kernel_rfl) (by kernel_rfl) (by kernel_rfl) (fun _ _ _ h => h) (Or.inl ⟨by rfl, ?_⟩) (by assumption) ?_
        rotate_left
        · (intro w hSw; obtain ⟨q0, q1⟩ := hSw; go_simp; (try with_reducible rfl))
        (try simp only [List.getElem_toArray, List.getElem_cons_zero, List.getElem_cons_succ, Act.put, List.setIfInBounds_toArray, List.set_cons_zero, List.set_cons_succ])
        refine wpAnyH_take (i := 7) (v := ?_) rfl (by kernel_rfl) (by kernel_rfl) (by kernel_rfl) (fun _ _ _ h => h) (Or.inl ⟨by rfl, ?_⟩) (by assumption) ?_
        rotate_left
        · (intro w hSw; obtain ⟨q0, q1⟩ := hSw; go_simp; (try with_reducible rfl))
        (try simp only [List.getElem_toArray, List.getElem_cons_zero, List.getElem_cons_succ, Act.put, List.setIfInBounds_toArray, List.set_cons_zero, List.set_cons_succ])
        refine wpAnyH_ready (rs := [8]) (by kernel_rfl) (by simp) ?_
        refine AllReadyH.cons rfl (fun K hK => ?_) AllReadyH.nil
        go_simp
        have QL : LBlk (v2.alloc (.cells #[.int .i64 0, .string ⟨#[]⟩, .slice none 0 0, .string ⟨#[]⟩, .slice none 0 0, .string ⟨#[]⟩, .slice none 0 0, .bool false, .bool false, .int .i64 0] 43)) v2.heap.size 43 10 := LBlk.of (Blk.new v2 43 #[.int .i64 0, .string ⟨#[]⟩, .slice none 0 0, .string ⟨#[]⟩, .slice none 0 0, .string ⟨#[]⟩, .slice none 0 0, .bool false, .bool false, .int .i64 0]) rfl noLab_out0
        have hle : wd.heap.size ≤ v2.heap.size := hb2.size
        have hb3 : Below wd.heap.size wd (v2.alloc (.cells #[.int .i64 0, .string ⟨#[]⟩, .slice none 0 0, .string ⟨#[]⟩, .slice none 0 0, .string ⟨#[]⟩, .slice none 0 0, .bool false, .bool false, .int .i64 0] 43)) := hb2.alloc hb2.size _
        refine hK.out _ _ (KS2.out _ hb3) (fun hHeld => ?_)
        clear hK K
        (try simp only [List.getElem_toArray, List.getElem_cons_zero, List.getElem_cons_succ, Act.put, List.setIfInBounds_toArray, List.set_cons_zero, List.set_cons_succ])
        generalize hgg : v2.heap.size = gP at *
        generalize v2.alloc (.cells #[.int .i64 0, .string ⟨#[]⟩, .slice none 0 0, .string ⟨#[]⟩, .slice none 0 0, .string ⟨#[]⟩, .slice none 0 0, .bool false, .bool false, .int .i64 0] 43) = v3 at *
        clear hgg
        refine wpAnyH_ready (rs := [9]) (by kernel_rfl) (by simp) ?_
        refine AllReadyH.cons rfl (fun K hK => ?_) AllReadyH.nil
        rw [if_pos (by rfl)]
        refine wp_setMidG 43 (.tmp 4) (.tmp 35) rfl gP 0 (outV ⟨⟨ea, ES, el, EX, em⟩, [97, 98, 32], rl, bl, bw, 0⟩ A4 c4 B4 d4 C4 e4) rfl rfl (QL.there10 (by decide) _ _ _ _ _ _ _) out_sizeG (outV_one _ _ _ _ _ _ _) ?_
        intro ws hws
        have hs2 : Below wd.heap.size wd ws := by rw [hws.out]; exact below_setCells hle _ 0 hb3
        have hr : ws.rangeAt gP 0 (outV ⟨⟨ea, ES, el, EX, em⟩, [97, 98, 32], rl, bl, bw, 0⟩ A4 c4 B4 d4 C4 e4) := by rw [hws.out]; exact World.rangeAt_setCells_same _ _ _ _ (QL.there10 (by decide) _ _ _ _ _ _ _)
        have c5 : ws.cell? ⟨gP, 5, none⟩ = some (.string ⟨#[97, 98, 32]⟩) := hr 5 _ rfl
        have c9 : ws.cell? ⟨gP, 9, none⟩ = some (.int .i64 0) := hr 9 _ rfl
        clear hws hr
        refine hK.out _ _ (KS2.out _ hs2) (fun hHeld => ?_)
        clear hK K
        (try simp only [List.getElem_toArray, List.getElem_cons_zero, List.getElem_cons_succ, Act.put])
        refine wpAnyH_take (i := 10) (v := ?_) rfl (by kernel_rfl) (by kernel_rfl) (by kernel_rfl) (fun _ _ _ h => h) (Or.inl ⟨by rfl, ?_⟩) (by assumption) ?_
        rotate_left
        · (intro w hSw; obtain ⟨q0, q1⟩ := hSw; go_simp; (try with_reducible rfl))
        (try simp only [List.getElem_toArray, List.getElem_cons_zero, List.getElem_cons_succ, Act.put, List.setIfInBounds_toArray, List.set_cons_zero, List.set_cons_succ])
        refine wpAnyH_done (by kernel_rfl) ?_ _
        go_wp2_with fail
        go_meet
        exact ⟨_, rfl, rfl, hs2, c5, c9⟩
      · go_simp
        have QL : LBlk (v1.alloc (.cells #[.int .i64 0, .string ⟨#[]⟩, .slice none 0 0, .string ⟨#[]⟩, .slice none 0 0, .string ⟨#[]⟩, .slice none 0 0, .bool false, .bool false, .int .i64 0] 43)) v1.heap.size 43 10 := LBlk.of (Blk.new v1 43 #[.int .i64 0, .string ⟨#[]⟩, .slice none 0 0, .string ⟨#[]⟩, .slice none 0 0, .string ⟨#[]⟩, .slice none 0 0, .bool false, .bool false, .int .i64 0]) rfl noLab_out0
        have hle : wd.heap.size ≤ v1.heap.size := hb1.size
        have hb4 : Below wd.heap.size wd (v1.alloc (.cells #[.int .i64 0, .string ⟨#[]⟩, .slice none 0 0, .string ⟨#[]⟩, .slice none 0 0, .string ⟨#[]⟩, .slice none 0 0, .bool false, .bool false, .int .i64 0] 43)) := hb1.alloc hb1.size _
        refine hK.out _ _ (KS2.out _ hb4) (fun hHeld => ?_)
        clear hK K
        (try simp only [List.getElem_toArray, List.getElem_cons_zero, List.getElem_cons_succ, Act.put, List.setIfInBounds_toArray, List.set_cons_zero, List.set_cons_succ])
        generalize hgg : v1.heap.size = gP at *
        generalize v1.alloc (.cells #[.int .i64 0, .string ⟨#[]⟩, .slice none 0 0, .string ⟨#[]⟩, .slice none 0 0, .string ⟨#[]⟩, .slice none 0 0, .bool false, .bool false, .int .i64 0] 43) = v4 at *
        clear hgg
        refine wpAnyH_ready (rs := [4]) (by kernel_rfl) (by simp) ?_
        refine AllReadyH.cons rfl (fun K hK => ?_) AllReadyH.nil
        go_simp
        refine (HDO.out _ hb4).mono ?_
        rintro ee v5 ⟨A4, c4, B4, d4, C4, e4, rfl, rA, rB, rC, bbx5⟩
        have hb5 : Below wd.heap.size wd v5 := hb4.trans (bbx5.mono hb4.size)
        clear rA rB rC
        replace QL := QL.below bbx5
        (try go_wp2_with fail)
        refine hK.out _ _ (KS2.out _ hb5) (fun hHeld => ?_)
        clear hK K
        (try simp only [List.getElem_toArray, List.getElem_cons_zero, List.getElem_cons_succ, Act.put, List.setIfInBounds_toArray, List.set_cons_zero, List.set_cons_succ])
        refine wpAnyH_take (i := 5) (v := ?_) rfl (by kernel_rfl) (by kernel_rfl) (by kernel_rfl) (fun _ _ _ h => h) (Or.inl ⟨by rfl, ?_⟩) (by assumption) ?_
        rotate_left
        · (intro w hSw; obtain ⟨q0, q1⟩ := hSw; go_simp; (try with_reducible rfl))
        (try simp only [List.getElem_toArray, List.getElem_cons_zero, List.getElem_cons_succ, Act.put, List.setIfInBounds_toArray, List.set_cons_zero, List.set_cons_succ])
        refine wpAnyH_take (i := 6) (v := ?_) rfl (by kernel_rfl) (by kernel_rfl) (by kernel_rfl) (fun _ _ _ h => h) (Or.inl ⟨by rfl, ?_⟩) (by assumption) ?_
        rotate_left
        · (intro w hSw; obtain ⟨q0, q1⟩ := hSw; go_simp; (try with_reducible rfl))
        (try simp only [List.getElem_toArray, List.getElem_cons_zero, List.getElem_cons_succ, Act.put, List.setIfInBounds_toArray, List.set_cons_zero, List.set_cons_succ])
        refine wpAnyH_take (i := 7) (v := ?_) rfl (by kernel_rfl) (by kernel_rfl) (by kernel_rfl) (fun _ _ _ h => h) (Or.inl ⟨by rfl, ?_⟩) (by assumption) ?_
        rotate_left
        · (intro w hSw; obtain ⟨q0, q1⟩ := hSw; go_simp; (try with_reducible rfl))
        (try simp only [List.getElem_toArray, List.getElem_cons_zero, List.getElem_cons_succ, Act.put, List.setIfInBounds_toArray, List.set_cons_zero, List.set_cons_succ])
        refine wpAnyH_ready (rs := [9]) (by kernel_rfl) (by simp) ?_
        refine AllReadyH.cons rfl (fun K hK => ?_) AllReadyH.nil
        rw [if_pos (by rfl)]
        refine wp_setMidG 43 (.tmp 4) (.tmp 35) rfl gP 0 (outV ⟨⟨ea, ES, el, EX, em⟩, [97, 98, 32], rl, bl, bw, 0⟩ A4 c4 B4 d4 C4 e4) rfl rfl (QL.there10 (by decide) _ _ _ _ _ _ _) out_sizeG (outV_one _ _ _ _ _ _ _) ?_
        intro ws hws
        have hs2 : Below wd.heap.size wd ws := by rw [hws.out]; exact below_setCells hle _ 0 hb5
        have hr : ws.rangeAt gP 0 (outV ⟨⟨ea, ES, el, EX, em⟩, [97, 98, 32], rl, bl, bw, 0⟩ A4 c4 B4 d4 C4 e4) := by rw [hws.out]; exact World.rangeAt_setCells_same _ _ _ _ (QL.there10 (by decide) _ _ _ _ _ _ _)
        have c5 : ws.cell? ⟨gP, 5, none⟩ = some (.string ⟨#[97, 98, 32]⟩) := hr 5 _ rfl
        have c9 : ws.cell? ⟨gP, 9, none⟩ = some (.int .i64 0) := hr 9 _ rfl
        clear hws hr
        refine hK.out _ _ (KS2.out _ hs2) (fun hHeld => ?_)
        clear hK K
        (try simp only [List.getElem_toArray, List.getElem_cons_zero, List.getElem_cons_succ, Act.put])
        refine wpAnyH_take (i := 10) (v := ?_) rfl (by kernel_rfl) (by kernel_rfl) (by kernel_rfl) (fun _ _ _ h => h) (Or.inl ⟨by rfl, ?_⟩) (by assumption) ?_
        rotate_left
        · (intro w hSw; obtain ⟨q0, q1⟩ := hSw; go_simp; (try with_reducible rfl))
        (try simp only [List.getElem_toArray, List.getElem_cons_zero, List.getElem_cons_succ, Act.put, List.setIfInBounds_toArray, List.set_cons_zero, List.set_cons_succ])
        refine wpAnyH_done (by kernel_rfl) ?_ _
        go_wp2_with fail
        go_meet
        exact ⟨_, rfl, rfl, hs2, c5, c9⟩
    · go_simp
      have QL : LBlk ((wd.alloc (.cells #[.int .i64 0, .string ⟨#[]⟩, .slice none 0 0, .string ⟨#[]⟩, .slice none 0 0, .string ⟨#[]⟩, .slice none 0 0, .bool false, .bool false, .int .i64 0] 43)).drew) wd.heap.size 43 10 := LBlk.of (Blk.drew (Blk.new wd 43 #[.int .i64 0, .string ⟨#[]⟩, .slice none 0 0, .string ⟨#[]⟩, .slice none 0 0, .string ⟨#[]⟩, .slice none 0 0, .bool false, .bool false, .int .i64 0])) rfl noLab_out0
      have hle : wd.heap.size ≤ wd.heap.size := Nat.le_refl _
      have hb6 : Below wd.heap.size wd ((wd.alloc (.cells #[.int .i64 0, .string ⟨#[]⟩, .slice none 0 0, .string ⟨#[]⟩, .slice none 0 0, .string ⟨#[]⟩, .slice none 0 0, .bool false, .bool false, .int .i64 0] 43)).drew) := below_drewN ((Below.refl _ wd).alloc (Nat.le_refl _) _) 1
      refine hK.out _ _ (KS2.out _ hb6) (fun hHeld => ?_)
      clear hK K
      (try simp only [List.getElem_toArray, List.getElem_cons_zero, List.getElem_cons_succ, Act.put, List.setIfInBounds_toArray, List.set_cons_zero, List.set_cons_succ])
      generalize (wd.alloc (.cells #[.int .i64 0, .string ⟨#[]⟩, .slice none 0 0, .string ⟨#[]⟩, .slice none 0 0, .string ⟨#[]⟩, .slice none 0 0, .bool false, .bool false, .int .i64 0] 43)).drew = v6 at *
      refine wpAnyH_ready (rs := [3]) (by kernel_rfl) (by simp) ?_
      refine AllReadyH.cons rfl (fun K hK => ?_) AllReadyH.nil
      go_simp
      refine (HSP.out _ hb6).mono ?_
      rintro ee v7 ⟨rfl, bbx7⟩
      have hb7 : Below wd.heap.size wd v7 := hb6.trans (bbx7.mono hb6.size)
      replace QL := QL.below bbx7
      (try go_wp2_with fail)
      refine hK.out _ _ (KS2.out _ hb7) (fun hHeld => ?_)
      clear hK K
      (try simp only [List.getElem_toArray, List.getElem_cons_zero, List.getElem_cons_succ, Act.put, List.setIfInBounds_toArray, List.set_cons_zero, List.set_cons_succ])
      refine wpAnyH_ready (rs := [4]) (by kernel_rfl) (by simp) ?_
      refine AllReadyH.cons rfl (fun K hK => ?_) AllReadyH.nil
      go_simp
      refine (HDO.out _ hb7).mono ?_
      rintro ee v8 ⟨A4, c4, B4, d4, C4, e4, rfl, rA, rB, rC, bbx8⟩
      have hb8 : Below wd.heap.size wd v8 := hb7.trans (bbx8.mono hb7.size)
      clear rA rB rC
      replace QL := QL.below bbx8
      (try go_wp2_with fail)
      refine hK.out _ _ (KS2.out _ hb8) (fun hHeld => ?_)
      clear hK K
      (try simp only [List.getElem_toArray, List.getElem_cons_zero, List.getElem_cons_succ, Act.put, List.setIfInBounds_toArray, List.set_cons_zero, List.set_cons_succ])
      refine wpAnyH_take (i := 5) (v := ?_) rfl (by kernel_rfl) (by kernel_rfl) (by kernel_rfl) (fun _ _ _ h => h) (Or.inl ⟨by rfl, ?_⟩) (by assumption) ?_
      rotate_left
      · (intro w hSw; obtain ⟨q0, q1⟩ := hSw; go_simp; (try with_reducible rfl))
      (try simp only [List.getElem_toArray, List.getElem_cons_zero, List.getElem_cons_succ, Act.put, List.setIfInBounds_toArray, List.set_cons_zero, List.set_cons_succ])
      refine wpAnyH_take (i := 6) (v := ?_) rfl (by kernel_rfl) (by kernel_rfl) (by kernel_rfl) (fun _ _ _ h => h) (Or.inl ⟨by rfl, ?_⟩) (by assumption) ?_
      rotate_left
      · (intro w hSw; obtain ⟨q0, q1⟩ := hSw; go_simp; (try with_reducible rfl))
      (try simp only [List.getElem_toArray, List.getElem_cons_zero, List.getElem_cons_succ, Act.put, List.setIfInBounds_toArray, List.set_cons_zero, List.set_cons_succ])
      refine wpAnyH_take (i := 7) (v := ?_) rfl (by kernel_rfl) (by kernel_rfl) (by kernel_rfl) (fun _ _ _ h => h) (Or.inl ⟨by rfl, ?_⟩) (by assumption) ?_
      rotate_left
      · (intro w hSw; obtain ⟨q0, q1⟩ := hSw; go_simp; (try with_reducible rfl))
      (try simp only [List.getElem_toArray, List.getElem_cons_zero, List.getElem_cons_succ, Act.put, List.setIfInBounds_toArray, List.set_cons_zero, List.set_cons_succ])
      refine wpAnyH_ready (rs := [9]) (by kernel_rfl) (by simp) ?_
      refine AllReadyH.cons rfl (fun K hK => ?_) AllReadyH.nil
      rw [if_pos (by rfl)]
      refine wp_setMidG 43 (.tmp 4) (.tmp 35) rfl wd.heap.size 0 (outV ⟨⟨ea, ES, el, EX, em⟩, [97, 98, 32], rl, bl, bw, 0⟩ A4 c4 B4 d4 C4 e4) rfl rfl (QL.there10 (by decide) _ _ _ _ _ _ _) out_sizeG (outV_one _ _ _ _ _ _ _) ?_
      intro ws hws
      have hs2 : Below wd.heap.size wd ws := by rw [hws.out]; exact below_setCells hle _ 0 hb8
      have hr : ws.rangeAt wd.heap.size 0 (outV ⟨⟨ea, ES, el, EX, em⟩, [97, 98, 32], rl, bl, bw, 0⟩ A4 c4 B4 d4 C4 e4) := by rw [hws.out]; exact World.rangeAt_setCells_same _ _ _ _ (QL.there10 (by decide) _ _ _ _ _ _ _)
      have c5 : ws.cell? ⟨wd.heap.size, 5, none⟩ = some (.string ⟨#[97, 98, 32]⟩) := hr 5 _ rfl
      have c9 : ws.cell? ⟨wd.heap.size, 9, none⟩ = some (.int .i64 0) := hr 9 _ rfl
      clear hws hr
      refine hK.out _ _ (KS2.out _ hs2) (fun hHeld => ?_)
      clear hK K
      (try simp only [List.getElem_toArray, List.getElem_cons_zero, List.getElem_cons_succ, Act.put])
      refine wpAnyH_take (i := 10) (v := ?_) rfl (by kernel_rfl) (by kernel_rfl) (by kernel_rfl) (fun _ _ _ h => h) (Or.inl ⟨by rfl, ?_⟩) (by assumption) ?_
      rotate_left
      · (intro w hSw; obtain ⟨q0, q1⟩ := hSw; go_simp; (try with_reducible rfl))
      (try simp only [List.getElem_toArray, List.getElem_cons_zero, List.getElem_cons_succ, Act.put, List.setIfInBounds_toArray, List.set_cons_zero, List.set_cons_succ])
      refine wpAnyH_done (by kernel_rfl) ?_ _
      go_wp2_with fail
      go_meet
      exact ⟨_, rfl, rfl, hs2, c5, c9⟩
  case rest =>
    obtain ⟨g4, rfl, rfl, hbc, c5, c9⟩ := hcut
    have KJ : Hid (Grow wc (fun w' => Blk w' w.heap.size 75 #[.string ⟨S.toArray⟩, .slice A l.length c, .int .u64 (y : Nat), .int .i64 p, .int .i32 k, .int .i32 a, .int .i64 n, .int .i32 op] ∧ Below w.heap.size w w')) := fun w' hb => ((K.out.step hbc) w' hb).1
    clear K KS2 HSP HDO HOK hbc hb0
    have K := KJ
    clear KJ
    go_upto_region 5 with fail
    clear c5 c9
    obtain ⟨x0, x1, x2, x3, x4, x5, x6⟩ := go_cells (K.out.now.1)
    have HFT : Hid ((decide (S.length ≤ 1024) && decide (l.length ≤ 5000)) = true → S.length ≤ 1024 ∧ l.length ≤ 5000) := fun e => by simpa using e
    have HFJ := Lib.hid (fun wx => lawFitsG_any A c S l wx)
    generalize (decide (S.length ≤ 1024) && decide (l.length ≤ 5000)) = fj at *
    cases fj with
    | false =>
      go_wp2_with (go_at_call 33; refine (HFJ.out _).mono ?_; rintro e w3 ⟨rfl, bb⟩; replace K := Lib.hid (K.out.step bb); clear bb)
      go_ret
      exact ⟨rfl, K.out.now.2⟩
    | true =>
      obtain ⟨l1, l2⟩ := HFT.out rfl
      go_upto_region 7 with (go_at_call 33; refine (HFJ.out _).mono ?_; rintro e w3 ⟨rfl, bb⟩; replace K := Lib.hid (K.out.step bb); clear bb x0 x1 x2 x3 x4 x5 x6; obtain ⟨x0, x1, x2, x3, x4, x5, x6⟩ := go_cells K.out.now.1)
      clear HFJ HFT
      have HVW := Lib.hid (fun wx hx => stpView_any A c wx.heap.size S l y hy wx (Nat.le_refl _) hx)
      by_cases hg : goodT S l = true
      · have hv0 : viewOf S l y = ((viewOf S l y).1, 0) := Prod.ext rfl (by unfold viewOf; rw [if_pos hg])
        have hvl : S.length = (viewOf S l y).1.length := view_same (by rw [hv0])
        rw [hv0] at HVW
        have HGO : Hid (∀ {F E : Nat}, F ≤ E → E ≤ S.length → _) := fun {F E} h1 h2 => goes (y := y) hg h1 h2
        clear hv0
        generalize (viewOf S l y).1 = V at HVW hvl
        dsimp only at HVW
        go_upto_region 10 with (go_at_call 34; refine (HVW.out _ (HAS.out _ K.out.now.2)).mono ?_; rintro e w4 ⟨rfl, bb⟩; replace K := Lib.hid (K.out.step bb); clear bb x0 x1 x2 x3 x4 x5 x6; obtain ⟨x0, x1, x2, x3, x4, x5, x6⟩ := go_cells K.out.now.1)
        clear HVW
        have HTO := Lib.hid (fun wx hb => HM.out.to_ V p k a n wx hb (by omega) hp hk ha hn)
        have HTW := Lib.hid (fun x kd (e : toM V p k a n = some (x, kd)) => toM_within e)
        generalize toM V p k a n = r at *
        rcases r with _ | ⟨x, kd⟩
        · go_wp2_with (go_at_call 36; refine (HTO.out _ K.out.now.2).mono ?_; rintro e w5 ⟨rfl, bb⟩; replace K := Lib.hid (K.out.step bb); clear bb)
          go_ret
          exact ⟨rfl, K.out.now.2⟩
        · obtain ⟨hbx, hkd, _⟩ := HTW.out x kd rfl
          have hx4 := hbx.le
          clear hbx HTW
          by_cases h2 : kd = 2
          · subst h2
            go_wp2_with (go_at_call 36; refine (HTO.out _ K.out.now.2).mono ?_; rintro e w5 ⟨rfl, bb⟩; replace K := Lib.hid (K.out.step bb); clear bb)
            go_ret
            exact ⟨rfl, K.out.now.2⟩
          · have e2 : ((kd : Int) == 2) = false := by rw [beq_eq_false_iff_ne]; omega
            obtain ⟨F, E, hsp, hFE, hE⟩ := span_in V p (x : Int) (kd : Int) (by omega)
            have HSX := Lib.hid (fun wx hb => HD.out.span V p (x : Int) (kd : Int) wx hb (by omega) hp (by omega) (by omega))
            rw [hsp] at HSX
            obtain ⟨C, cl, U, q, wide, P, pl, Q, ql, z1, z2, z3, z4, z5, z6, z7, z8⟩ := HGO.out hFE (by omega)
            have HX := Lib.hid (fun wx (hb : Below w.heap.size w wx) => HD.out.do_ A c S l y 100 F E false wx hb (HAS.out wx hb) (by omega) l2 hy (by decide) (by omega) (by omega))
            have HY := Lib.hid (fun wx (hb : Below w.heap.size w wx) => HD.out.do_ A c S l y 121 F E false wx hb (HAS.out wx hb) (by omega) l2 hy (by decide) (by omega) (by omega))
            rw [z2] at HX
            rw [z3] at HY
            have HXk := Lib.hid (okO_do (S := S) HFF.out hy 100 F E false)
            have HYk := Lib.hid (okO_do (S := S) HFF.out hy 121 F E false)
            rw [z2] at HXk
            rw [z3] at HYk
            have Z1 := Lib.hid z1
            have Z4 := Lib.hid z4
            have Z5 := Lib.hid z5
            have Z6 := Lib.hid z6
            have Z7 := Lib.hid z7
            have Z8 := Lib.hid z8
            have o1 := okT_cut (S := S) HFF.out (F : Int) (E : Int)
            have o6 := okT_cut (S := S) HFF.out 0 (F : Int)
            have o7 := okT_cut (S := S) HFF.out (E : Int) (S.length : Int)
            rw [z1] at o1
            rw [z6] at o6
            rw [z7] at o7
            have o4 := okT_apply (S := S) (l := l) (X := []) (m := []) HFF.out (fun r hr => by simp at hr) (F : Int) C cl
            rw [z4] at o4
            have o8 := okT_apply (S := S) (l := l) (X := []) (m := []) HFF.out (fun r hr => by simp at hr) (F : Int) [] []
            rw [z5] at o8
            have O1 := Lib.hid o1
            have O4 := Lib.hid o4
            have O6 := Lib.hid o6
            have O7 := Lib.hid o7
            have O8 := Lib.hid o8
            clear z1 z2 z3 z4 z5 z6 z7 z8 o1 o4 o6 o7 o8 HGO hsp hg
            have hFE1 : ¬ (E : Int) < (F : Int) := by omega
            have hE1 : ¬ (V.length : Int) < (E : Int) := by omega
            have hFE2 : decide ((E : Int) < (F : Int)) = false := decide_eq_false hFE1
            have hE2 : decide ((V.length : Int) < (E : Int)) = false := decide_eq_false hE1
            have hFE3 : decide (E < F) = false := decide_eq_false (by omega)
            have hE3 : decide (V.length < E) = false := decide_eq_false (by omega)
            have HXF : Hid (-9223372036854775808 ≤ (F : Int) ∧ (F : Int) ≤ 9223372036854775807) := ⟨by omega, by omega⟩
            have HXE : Hid (-9223372036854775808 ≤ (E : Int) ∧ (E : Int) ≤ 9223372036854775807) := ⟨by omega, by omega⟩
            clear hx4 hkd hvl
            go_upto_region 14 with (first
              | (go_at_call 36; refine (HTO.out _ K.out.now.2).mono ?_; rintro e w5 ⟨rfl, bb⟩; replace K := Lib.hid (K.out.step bb); clear bb x0 x1 x2 x3 x4 x5 x6; obtain ⟨x0, x1, x2, x3, x4, x5, x6⟩ := go_cells K.out.now.1)
              | (go_at_call 13; refine (HSX.out _ K.out.now.2).mono ?_; rintro e w6 ⟨rfl, bb⟩; dsimp only; replace K := Lib.hid (((K.out.step bb).alloc (.cells #[.int .i64 (F : Nat), .int .i64 (E : Nat), .bool false] 25)).and (grow_new w6 25 #[.int .i64 (F : Nat), .int .i64 (E : Nat), .bool false])); clear bb x0 x1 x2 x3 x4 x5 x6))
            generalize w6.heap.size = g10 at *
            generalize w6.alloc (.cells #[.int .i64 (F : Nat), .int .i64 (E : Nat), .bool false] 25) = w6a at *
            clear HTO HSX
            obtain ⟨x0, x1, x2, x3, x4, x5, x6⟩ := go_cells (K.out.now.1.1)
            obtain ⟨r0, r1, r2⟩ := rngG_cells (K.out.now.2)
            go_upto_region 15 with (go_at_call 16; refine (HX.out _ (K.out.now.1.2)).mono ?_; rintro e w7 ⟨XA, xc, XB, xd, XC, xe, rfl, rA, rB, rC, bb⟩; have TU := Lib.hid (Grow.alloc (grow_outTx (wx := w7) (OutTx.of HXk.out rA rB rC)) (.cells #[.int .i64 (F : Nat), .string ⟨C.toArray⟩, .slice XA cl.length xc, .string ⟨#[]⟩, .slice XB 0 xd, .string ⟨C.toArray⟩, .slice XC cl.length xe, .bool false, .bool wide, .int .i64 (F : Nat)] 43)); replace K := Lib.hid (((K.out.step bb).alloc (.cells #[.int .i64 (F : Nat), .string ⟨C.toArray⟩, .slice XA cl.length xc, .string ⟨#[]⟩, .slice XB 0 xd, .string ⟨C.toArray⟩, .slice XC cl.length xe, .bool false, .bool wide, .int .i64 (F : Nat)] 43)).and (TU.out.and (grow_new w7 43 #[.int .i64 (F : Nat), .string ⟨C.toArray⟩, .slice XA cl.length xc, .string ⟨#[]⟩, .slice XB 0 xd, .string ⟨C.toArray⟩, .slice XC cl.length xe, .bool false, .bool wide, .int .i64 (F : Nat)]))); clear bb rA rB rC TU x0 x1 x2 x3 x4 x5 x6 r0 r1 r2)
            change Code.wp _ _ _ _ (w7.alloc (.cells #[.int .i64 (F : Nat), .string ⟨C.toArray⟩, .slice XA cl.length xc, .string ⟨#[]⟩, .slice XB 0 xd, .string ⟨C.toArray⟩, .slice XC cl.length xe, .bool false, .bool wide, .int .i64 (F : Nat)] 43))
            generalize w7.heap.size = g11 at *
            generalize w7.alloc (.cells #[.int .i64 (F : Nat), .string ⟨C.toArray⟩, .slice XA cl.length xc, .string ⟨#[]⟩, .slice XB 0 xd, .string ⟨C.toArray⟩, .slice XC cl.length xe, .bool false, .bool wide, .int .i64 (F : Nat)] 43) = w7a at *
            obtain ⟨x0, x1, x2, x3, x4, x5, x6⟩ := go_cells (K.out.now.1.1.1)
            obtain ⟨r0, r1, r2⟩ := rngG_cells (K.out.now.1.2)
            go_upto_region 16 with (go_at_call 16; refine (HY.out _ (K.out.now.1.1.2)).mono ?_; rintro e w8 ⟨YA, yc, YB, yd, YC, ye, rfl, rA, rB, rC, bb⟩; have TU := Lib.hid (Grow.alloc (grow_outTx (wx := w8) (OutTx.of HYk.out rA rB rC)) (.cells #[.int .i64 (F : Nat), .string ⟨#[]⟩, .slice YA 0 yc, .string ⟨#[]⟩, .slice YB 0 yd, .string ⟨C.toArray⟩, .slice YC cl.length ye, .bool false, .bool wide, .int .i64 (F : Nat)] 43)); replace K := Lib.hid (((K.out.step bb).alloc (.cells #[.int .i64 (F : Nat), .string ⟨#[]⟩, .slice YA 0 yc, .string ⟨#[]⟩, .slice YB 0 yd, .string ⟨C.toArray⟩, .slice YC cl.length ye, .bool false, .bool wide, .int .i64 (F : Nat)] 43)).and (TU.out.and (grow_new w8 43 #[.int .i64 (F : Nat), .string ⟨#[]⟩, .slice YA 0 yc, .string ⟨#[]⟩, .slice YB 0 yd, .string ⟨C.toArray⟩, .slice YC cl.length ye, .bool false, .bool wide, .int .i64 (F : Nat)]))); clear bb rA rB rC TU x0 x1 x2 x3 x4 x5 x6 r0 r1 r2)
            change Code.wp _ _ _ _ (w8.alloc (.cells #[.int .i64 (F : Nat), .string ⟨#[]⟩, .slice YA 0 yc, .string ⟨#[]⟩, .slice YB 0 yd, .string ⟨C.toArray⟩, .slice YC cl.length ye, .bool false, .bool wide, .int .i64 (F : Nat)] 43))
            generalize w8.heap.size = g12 at *
            generalize w8.alloc (.cells #[.int .i64 (F : Nat), .string ⟨#[]⟩, .slice YA 0 yc, .string ⟨#[]⟩, .slice YB 0 yd, .string ⟨C.toArray⟩, .slice YC cl.length ye, .bool false, .bool wide, .int .i64 (F : Nat)] 43) = w8a at *
            obtain ⟨r0, r1, r2⟩ := rngG_cells (K.out.now.1.1.2)
            go_upto_region 18 with fail
            clear r0 r1 r2
            obtain ⟨x0, x1, x2, x3, x4, x5, x6⟩ := go_cells (K.out.now.1.1.1.1)
            obtain ⟨r0, r1, r2⟩ := rngG_cells (K.out.now.1.1.2)
            go_upto_region 19 with (go_at_call 37; refine (stpCut_any A c _ S l (F : Nat) (E : Nat) _ (Nat.le_refl _) (HAS.out _ (K.out.now.1.1.1.2))).mono ?_; rw [Z1.out]; rintro e w9 ⟨A1, c1, rfl, own, bb⟩; dsimp only at own ⊢; have TU := Lib.hid (Grow.alloc (grow_txu (wx := w9) (OkT.txt2 O1.out (Row.of_own own))) (.cells #[.string ⟨C.toArray⟩, .slice A1 cl.length c1] 32)); replace K := Lib.hid (((K.out.step bb).alloc (.cells #[.string ⟨C.toArray⟩, .slice A1 cl.length c1] 32)).and (TU.out.and (grow_new w9 32 #[.string ⟨C.toArray⟩, .slice A1 cl.length c1]))); clear bb own TU x0 x1 x2 x3 x4 x5 x6 r0 r1 r2)
            generalize w9.heap.size = g14 at *
            generalize w9.alloc (.cells #[.string ⟨C.toArray⟩, .slice A1 cl.length c1] 32) = w9a at *
            obtain ⟨x0, x1, x2, x3, x4, x5, x6⟩ := go_cells (K.out.now.1.1.1.1.1)
            obtain ⟨r0, r1, r2⟩ := rngG_cells (K.out.now.1.1.1.2)
            go_upto_region 20 with (go_at_call 37; refine (stpCut_any A c _ S l 0 (F : Nat) _ (Nat.le_refl _) (HAS.out _ (K.out.now.1.1.1.1.2))).mono ?_; rw [Z6.out]; rintro e w10 ⟨A6, c6, rfl, own, bb⟩; dsimp only at own ⊢; have TU := Lib.hid (Grow.alloc (grow_txu (wx := w10) (OkT.txt2 O6.out (Row.of_own own))) (.cells #[.string ⟨P.toArray⟩, .slice A6 pl.length c6] 32)); replace K := Lib.hid (((K.out.step bb).alloc (.cells #[.string ⟨P.toArray⟩, .slice A6 pl.length c6] 32)).and (TU.out.and (grow_new w10 32 #[.string ⟨P.toArray⟩, .slice A6 pl.length c6]))); clear bb own TU x0 x1 x2 x3 x4 x5 x6 r0 r1 r2)
            generalize w10.heap.size = g16 at *
            generalize w10.alloc (.cells #[.string ⟨P.toArray⟩, .slice A6 pl.length c6] 32) = w10a at *
            obtain ⟨x0, x1, x2, x3, x4, x5, x6⟩ := go_cells (K.out.now.1.1.1.1.1.1)
            obtain ⟨r0, r1, r2⟩ := rngG_cells (K.out.now.1.1.1.1.2)
            go_upto_region 21 with (go_at_call 37; refine (stpCut_any A c _ S l (E : Nat) (S.length : Nat) _ (Nat.le_refl _) (HAS.out _ (K.out.now.1.1.1.1.1.2))).mono ?_; rw [Z7.out]; rintro e w11 ⟨A7, c7, rfl, own, bb⟩; dsimp only at own ⊢; have TU := Lib.hid (Grow.alloc (grow_txu (wx := w11) (OkT.txt2 O7.out (Row.of_own own))) (.cells #[.string ⟨Q.toArray⟩, .slice A7 ql.length c7] 32)); replace K := Lib.hid (((K.out.step bb).alloc (.cells #[.string ⟨Q.toArray⟩, .slice A7 ql.length c7] 32)).and (TU.out.and (grow_new w11 32 #[.string ⟨Q.toArray⟩, .slice A7 ql.length c7]))); clear bb own TU x0 x1 x2 x3 x4 x5 x6 r0 r1 r2)
            generalize w11.heap.size = g18 at *
            generalize w11.alloc (.cells #[.string ⟨Q.toArray⟩, .slice A7 ql.length c7] 32) = w11a at *
            obtain ⟨a0, a1⟩ := txt_cells (K.out.now.1.2.2)
            obtain ⟨b0, b1⟩ := txt_cells (K.out.now.2.2)
            go_upto_region 22 with (go_at_call 38; refine (stpCat_any A6 A7 c6 c7 _ _ P Q pl ql _ (Nat.le_refl _) (Nat.le_refl _) (K.out.now.1.2.1) (K.out.now.2.1)).mono ?_; rw [Z8.out]; rintro e w12 ⟨A8, c8, rfl, own, bb⟩; dsimp only at own ⊢; have TU := Lib.hid (Grow.alloc (grow_txu (wx := w12) (OkT.txt2 O4.out (Row.of_own own))) (.cells #[.string ⟨U.toArray⟩, .slice A8 q.length c8] 32)); replace K := Lib.hid (((K.out.step bb).alloc (.cells #[.string ⟨U.toArray⟩, .slice A8 q.length c8] 32)).and (TU.out.and (grow_new w12 32 #[.string ⟨U.toArray⟩, .slice A8 q.length c8]))); clear bb own TU a0 a1 b0 b1)
            generalize w12.heap.size = g20 at *
            generalize w12.alloc (.cells #[.string ⟨U.toArray⟩, .slice A8 q.length c8] 32) = w12a at *
            obtain ⟨x0, x1, x2, x3, x4, x5, x6⟩ := go_cells (K.out.now.1.1.1.1.1.1.1.1)
            obtain ⟨⟨p0, p1, p2, p3, p4, p5, p6, p7, p8, p9⟩, _⟩ := out_cells (K.out.now.1.1.1.1.1.2.2)
            go_upto_region 23 with (go_at_call 39; refine (ediApply_any A XA XB c xc xd S l (F : Nat) C cl [] [] _ (HAS.out _ (K.out.now.1.1.1.1.1.1.1.2)) (K.out.now.1.1.1.1.1.2.1.s) (K.out.now.1.1.1.1.1.2.1.x)).mono ?_; rw [Z4.out]; rintro e w13 ⟨A9, c9, rfl, own, bb⟩; dsimp only at own ⊢; have TU := Lib.hid (Grow.alloc (grow_txu (wx := w13) (OkT.txt2 O4.out (Row.of_own own))) (.cells #[.string ⟨U.toArray⟩, .slice A9 q.length c9] 32)); replace K := Lib.hid (((K.out.step bb).alloc (.cells #[.string ⟨U.toArray⟩, .slice A9 q.length c9] 32)).and (TU.out.and (grow_new w13 32 #[.string ⟨U.toArray⟩, .slice A9 q.length c9]))); clear bb own TU x0 x1 x2 x3 x4 x5 x6 p0 p1 p2 p3 p4 p5 p6 p7 p8 p9)
            generalize w13.heap.size = g22 at *
            generalize w13.alloc (.cells #[.string ⟨U.toArray⟩, .slice A9 q.length c9] 32) = w13a at *
            obtain ⟨x0, x1, x2, x3, x4, x5, x6⟩ := go_cells (K.out.now.1.1.1.1.1.1.1.1.1)
            obtain ⟨⟨q0, q1, q2, q3, q4, q5, q6, q7, q8, q9⟩, _⟩ := out_cells (K.out.now.1.1.1.1.1.2.2)
            go_upto_region 24 with (go_at_call 39; refine (ediApply_any A YA YB c yc yd S l (F : Nat) [] [] [] [] _ (HAS.out _ (K.out.now.1.1.1.1.1.1.1.1.2)) (K.out.now.1.1.1.1.1.2.1.s) (K.out.now.1.1.1.1.1.2.1.x)).mono ?_; rw [Z5.out]; rintro e w14 ⟨A0, c0, rfl, own, bb⟩; dsimp only at own ⊢; have TU := Lib.hid (Grow.alloc (grow_txu (wx := w14) (OkT.txt2 O8.out (Row.of_own own))) (.cells #[.string ⟨S.toArray⟩, .slice A0 l.length c0] 32)); replace K := Lib.hid (((K.out.step bb).alloc (.cells #[.string ⟨S.toArray⟩, .slice A0 l.length c0] 32)).and (TU.out.and (grow_new w14 32 #[.string ⟨S.toArray⟩, .slice A0 l.length c0]))); clear bb own TU x0 x1 x2 x3 x4 x5 x6 q0 q1 q2 q3 q4 q5 q6 q7 q8 q9)
            generalize w14.heap.size = g24 at *
            generalize w14.alloc (.cells #[.string ⟨S.toArray⟩, .slice A0 l.length c0] 32) = w14a at *
            obtain ⟨x0, x1, x2, x3, x4, x5, x6⟩ := go_cells (K.out.now.1.1.1.1.1.1.1.1.1.1)
            obtain ⟨⟨p0, p1, p2, p3, p4, p5, p6, p7, p8, p9⟩, _⟩ := out_cells (K.out.now.1.1.1.1.1.1.1.2.2)
            obtain ⟨⟨q0, q1, q2, q3, q4, q5, q6, q7, q8, q9⟩, _⟩ := out_cells (K.out.now.1.1.1.1.1.1.2.2)
            obtain ⟨m0, m1⟩ := txt_cells (K.out.now.1.1.1.1.1.2.2)
            obtain ⟨s0, s1⟩ := txt_cells (K.out.now.1.1.2.2)
            obtain ⟨u0, u1⟩ := txt_cells (K.out.now.1.2.2)
            obtain ⟨z0, z1⟩ := txt_cells (K.out.now.2.2)
            go_wp2_with (first
              | (go_at_call 27; refine use_factM M3 ?_; intro _; refine (refTSame_any A0 A c0 c _ _ S S l l _ (Nat.le_refl _) (Nat.le_refl _) (K.out.now.2.1) (HAS.out _ (K.out.now.1.1.1.1.1.1.1.1.1.2))).mono ?_; rw [show decide (S = S ∧ l = l) = true from decide_eq_true ⟨rfl, rfl⟩]; rintro e v4 ⟨rfl, bb⟩; replace K := Lib.hid (K.out.step bb); clear bb x0 x1 x2 x3 x4 x5 x6 p0 p1 p2 p3 p4 p5 p6 p7 p8 p9 q0 q1 q2 q3 q4 q5 q6 q7 q8 q9 m0 m1 s0 s1 u0 u1 z0 z1; obtain ⟨x0, x1, x2, x3, x4, x5, x6⟩ := go_cells (K.out.now.1.1.1.1.1.1.1.1.1.1); obtain ⟨⟨p0, p1, p2, p3, p4, p5, p6, p7, p8, p9⟩, _⟩ := out_cells (K.out.now.1.1.1.1.1.1.1.2.2); obtain ⟨⟨q0, q1, q2, q3, q4, q5, q6, q7, q8, q9⟩, _⟩ := out_cells (K.out.now.1.1.1.1.1.1.2.2); obtain ⟨m0, m1⟩ := txt_cells (K.out.now.1.1.1.1.1.2.2); obtain ⟨s0, s1⟩ := txt_cells (K.out.now.1.1.2.2); obtain ⟨u0, u1⟩ := txt_cells (K.out.now.1.2.2); obtain ⟨z0, z1⟩ := txt_cells (K.out.now.2.2))
              | (go_at_call 27; refine use_factM M2 ?_; intro _; refine (refTSame_any A9 A8 c9 c8 _ _ U U q q _ (Nat.le_refl _) (Nat.le_refl _) (K.out.now.1.2.1) (K.out.now.1.1.2.1)).mono ?_; rw [show decide (U = U ∧ q = q) = true from decide_eq_true ⟨rfl, rfl⟩]; rintro e v3 ⟨rfl, bb⟩; replace K := Lib.hid (K.out.step bb); clear bb x0 x1 x2 x3 x4 x5 x6 p0 p1 p2 p3 p4 p5 p6 p7 p8 p9 q0 q1 q2 q3 q4 q5 q6 q7 q8 q9 m0 m1 s0 s1 u0 u1 z0 z1; obtain ⟨x0, x1, x2, x3, x4, x5, x6⟩ := go_cells (K.out.now.1.1.1.1.1.1.1.1.1.1); obtain ⟨⟨p0, p1, p2, p3, p4, p5, p6, p7, p8, p9⟩, _⟩ := out_cells (K.out.now.1.1.1.1.1.1.1.2.2); obtain ⟨⟨q0, q1, q2, q3, q4, q5, q6, q7, q8, q9⟩, _⟩ := out_cells (K.out.now.1.1.1.1.1.1.2.2); obtain ⟨m0, m1⟩ := txt_cells (K.out.now.1.1.1.1.1.2.2); obtain ⟨s0, s1⟩ := txt_cells (K.out.now.1.1.2.2); obtain ⟨u0, u1⟩ := txt_cells (K.out.now.1.2.2); obtain ⟨z0, z1⟩ := txt_cells (K.out.now.2.2); have M3 : Hid True := Lib.hid trivial)
              | (go_at_call 27; refine use_factM M1 ?_; intro _; refine (refTSame_any YC A1 ye c1 _ _ C C cl cl _ (Nat.le_refl _) (Nat.le_refl _) (K.out.now.1.1.1.1.1.1.2.1.r) (K.out.now.1.1.1.1.1.2.1)).mono ?_; rw [show decide (C = C ∧ cl = cl) = true from decide_eq_true ⟨rfl, rfl⟩]; rintro e v2 ⟨rfl, bb⟩; replace K := Lib.hid (K.out.step bb); clear bb x0 x1 x2 x3 x4 x5 x6 p0 p1 p2 p3 p4 p5 p6 p7 p8 p9 q0 q1 q2 q3 q4 q5 q6 q7 q8 q9 m0 m1 s0 s1 u0 u1 z0 z1; obtain ⟨x0, x1, x2, x3, x4, x5, x6⟩ := go_cells (K.out.now.1.1.1.1.1.1.1.1.1.1); obtain ⟨⟨p0, p1, p2, p3, p4, p5, p6, p7, p8, p9⟩, _⟩ := out_cells (K.out.now.1.1.1.1.1.1.1.2.2); obtain ⟨⟨q0, q1, q2, q3, q4, q5, q6, q7, q8, q9⟩, _⟩ := out_cells (K.out.now.1.1.1.1.1.1.2.2); obtain ⟨m0, m1⟩ := txt_cells (K.out.now.1.1.1.1.1.2.2); obtain ⟨s0, s1⟩ := txt_cells (K.out.now.1.1.2.2); obtain ⟨u0, u1⟩ := txt_cells (K.out.now.1.2.2); obtain ⟨z0, z1⟩ := txt_cells (K.out.now.2.2); have M2 : Hid True := Lib.hid trivial)
              | (go_at_call 27; refine (refTSame_any XC A1 xe c1 _ _ C C cl cl _ (Nat.le_refl _) (Nat.le_refl _) (K.out.now.1.1.1.1.1.1.1.2.1.r) (K.out.now.1.1.1.1.1.2.1)).mono ?_; rw [show decide (C = C ∧ cl = cl) = true from decide_eq_true ⟨rfl, rfl⟩]; rintro e v1 ⟨rfl, bb⟩; replace K := Lib.hid (K.out.step bb); clear bb x0 x1 x2 x3 x4 x5 x6 p0 p1 p2 p3 p4 p5 p6 p7 p8 p9 q0 q1 q2 q3 q4 q5 q6 q7 q8 q9 m0 m1 s0 s1 u0 u1 z0 z1; obtain ⟨x0, x1, x2, x3, x4, x5, x6⟩ := go_cells (K.out.now.1.1.1.1.1.1.1.1.1.1); obtain ⟨⟨p0, p1, p2, p3, p4, p5, p6, p7, p8, p9⟩, _⟩ := out_cells (K.out.now.1.1.1.1.1.1.1.2.2); obtain ⟨⟨q0, q1, q2, q3, q4, q5, q6, q7, q8, q9⟩, _⟩ := out_cells (K.out.now.1.1.1.1.1.1.2.2); obtain ⟨m0, m1⟩ := txt_cells (K.out.now.1.1.1.1.1.2.2); obtain ⟨s0, s1⟩ := txt_cells (K.out.now.1.1.2.2); obtain ⟨u0, u1⟩ := txt_cells (K.out.now.1.2.2); obtain ⟨z0, z1⟩ := txt_cells (K.out.now.2.2); have M1 : Hid True := Lib.hid trivial))
            go_ret
            exact ⟨rfl, K.out.now.1.1.1.1.1.1.1.1.1.2⟩
      · have hv0 : viewOf S l y = ([], 2) := by unfold viewOf; rw [if_neg hg]
        have hgf : goodT S l = false := by simpa using hg
        rw [hv0] at HVW
        have HGD := Lib.hid (fun wx hx => refTGood_any A c wx.heap.size S l wx (Nat.le_refl _) hx)
        rw [hgf] at HGD
        go_wp2_with (first
          | (go_at_call 34; refine (HVW.out _ (HAS.out _ K.out.now.2)).mono ?_; rintro e w4 ⟨rfl, bb⟩; replace K := Lib.hid (K.out.step bb); clear bb x0 x1 x2 x3 x4 x5 x6; obtain ⟨x0, x1, x2, x3, x4, x5, x6⟩ := go_cells K.out.now.1)
          | (go_at_call 35; refine (HGD.out _ (HAS.out _ K.out.now.2)).mono ?_; rintro e w5 ⟨rfl, bb⟩; replace K := Lib.hid (K.out.step bb); clear bb))
        go_ret
        exact ⟨rfl, K.out.now.2⟩
end Go.Proofs.YtgpmfkedcoiopaaGreatDoor

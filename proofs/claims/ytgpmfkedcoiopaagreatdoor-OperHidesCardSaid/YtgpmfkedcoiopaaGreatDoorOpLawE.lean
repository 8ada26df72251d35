/-
  Each edit can be made, and undone: layer 14, OperEdits.
-/
import Derived.Test.YtgpmfkedcoiopaaGreatDoorM14e
import Derived.Test.YtgpmfkedcoiopaaGreatDoorM14d
import Derived.Test.YtgpmfkedcoiopaaGreatDoorOpLawB
import Derived.Test.YtgpmfkedcoiopaaGreatDoorStrLawH
import Derived.Test.YtgpmfkedcoiopaaGreatDoorTextSet
namespace Go.Proofs.YtgpmfkedcoiopaaGreatDoor
open Go.RowKit
set_option maxRecDepth 100000
theorem if_zero {E : EdP} {RS : List UInt8} {rl : List RunP} {b c : Bool} {z : Int} {n : Nat} (h : (if n = 0 then ((⟨E, RS, rl, b, c, z⟩ : OutP), 0) else (out0, n)).2 ≠ 0) : (if n = 0 then ((⟨E, RS, rl, b, c, z⟩ : OutP), 0) else (out0, n)).1 = out0 := by
  by_cases h0 : n = 0
  · rw [if_pos h0] at h; exact absurd rfl h
  · rw [if_neg h0]
/-- what is refused answers nothing -/
theorem none_do {S : List UInt8} {l : List RunP} {y : Nat} {op f t : Int} {b : Bool} (h : (doM S l y op f t b).2 ≠ 0) : (doM S l y op f t b).1 = out0 := by
  unfold doM at h ⊢
  dsimp only at h ⊢
  split
  · rfl
  · next h1 =>
    rw [if_neg h1] at h
    split
    · next h2 =>
      rw [if_pos h2] at h
      exfalso
      apply h
      unfold takenM
      dsimp only
      split
      · rfl
      · split <;> rfl
    · next h2 =>
      rw [if_neg h2] at h
      split
      · next h3 =>
        rw [if_pos h3] at h
        unfold shiftedM at h ⊢
        exact if_zero h
      · next h3 =>
        rw [if_neg h3] at h
        split
        · next h4 =>
          rw [if_pos h4] at h
          unfold toggledM at h ⊢
          exact if_zero h
        · next h4 =>
          rw [if_neg h4] at h
          split
          · next h5 =>
            rw [if_pos h5] at h
            unfold joinedM at h ⊢
            dsimp only at h ⊢
            split
            · rfl
            · next h6 =>
              rw [if_neg h6] at h
              exact if_zero h
          · rfl
theorem none_swap {S : List UInt8} {l : List RunP} {y : Nat} {p n k : Int} (h : (swapM S l y p n k).2 ≠ 0) : (swapM S l y p n k).1 = out0 := by
  unfold swapM at h ⊢
  split
  · rfl
  · next h1 =>
    rw [if_neg h1] at h
    split
    · rfl
    · next h2 =>
      rw [if_neg h2] at h
      exact if_zero h
theorem none_put {S : List UInt8} {l : List RunP} {y : Nat} {p : Int} {X : List UInt8} {m : List RunP} {b ah : Bool} {n : Int} (h : (putM S l y p X m b ah n).2 ≠ 0) : (putM S l y p X m b ah n).1 = out0 := by
  unfold putM at h ⊢
  split
  · rfl
  · next h1 =>
    rw [if_neg h1] at h
    split
    · next h2 =>
      rw [if_pos h2] at h
      unfold putLM at h ⊢
      exact if_zero h
    · next h2 =>
      rw [if_neg h2] at h
      exact if_zero h
section
variable {wb : World} {a : Int} {S X : List UInt8} {l m : List RunP}
/-- an edit made (the document's), among other calls -/
theorem refApplyO_in {V U : List UInt8} {r q : List RunP} {A4 : Option Addr} {c4 : Nat} {n : Nat} (h : applyE V r a X m U q = ((S, l), n)) (hT : ∀ w', Below wb.heap.size wb w' → Txu w' A4 V r) :
    ∀ w', Below wb.heap.size wb w' → ∀ B k B2 k2, Txu w' B X m → Txu w' B2 U q → Calls Tryz.prog 25 #[.agg #[.string ⟨V.toArray⟩, .slice A4 r.length c4], .agg #[.int .i64 a, .string ⟨X.toArray⟩, .slice B m.length k, .string ⟨U.toArray⟩, .slice B2 q.length k2]] w' fun e w'' => ∃ A' c', e = .returned (.tuple #[.agg #[.string ⟨S.toArray⟩, .slice A' l.length c'], .int .i64 (n : Nat)]) ∧ Hid (Grow w'' (fun v => Txu v A' S l)) ∧ Below wb.heap.size wb w'' ∧ Below w'.heap.size w' w'' := by
  intro w' hb B k B2 k2 h1 h2
  have t := hT w' hb
  have ok := okT_apply (S := V) (X := U) t.hf h2.hf a X m
  rw [h] at ok
  refine (refEApply_any A4 B B2 c4 k k2 V r a X m U q w' t h1 h2).mono ?_
  rw [h]
  rintro e w'' ⟨A', c', rfl, own, bb⟩
  exact ⟨A', c', rfl, grow_txu (ok.txt (Row.of_own own)), hb.trans (bb.mono hb.size), bb⟩
theorem refInvertO_in {A A2 : Option Addr} {c d : Nat} (hT : ∀ w', Below wb.heap.size wb w' → Txu w' A S l) (hX : ∀ w', Below wb.heap.size wb w' → Txu w' A2 X m) :
    ∀ w', Below wb.heap.size wb w' → Calls Tryz.prog 26 #[.agg #[.int .i64 a, .string ⟨S.toArray⟩, .slice A l.length c, .string ⟨X.toArray⟩, .slice A2 m.length d]] w' fun e w'' => ∃ B c' B2 d', e = .returned (.agg #[.int .i64 a, .string ⟨X.toArray⟩, .slice B m.length c', .string ⟨S.toArray⟩, .slice B2 l.length d']) ∧ Hid (Grow w'' (fun v => Txu v B X m ∧ Txu v B2 S l)) ∧ Below wb.heap.size wb w'' ∧ Below w'.heap.size w' w'' := by
  intro w' hb
  have t := hT w' hb
  have x := hX w' hb
  refine (refEInvert_any A A2 c d a S l X m w' t x).mono ?_
  rintro e w'' ⟨B, c', B2, d', rfl, r1, r2, bb⟩
  exact ⟨B, c', B2, d', rfl, (grow_txu ⟨x.hS, x.hf, x.hl, r1⟩).and (grow_txu ⟨t.hS, t.hf, t.hl, r2⟩), hb.trans (bb.mono hb.size), bb⟩
end
theorem txu_nilO (w : World) : Txu w none [] [] := ⟨by simp, fun r hr => by simp at hr, by simp, Row.nil⟩
/-- an operator's answer: refused, and nothing; or an edit that can be made -/
structure AnsO (S : List UInt8) (l : List RunP) (r : OutP × Nat) : Prop where
  ok : OkO r.1
  no : r.2 ≠ 0 → r.1 = out0
  yes : r.2 = 0 → EditOk S l r.1.E r.1.at_
/-- the three answers by their number -/
def rr (r0 r1 r2 : OutP × Nat) (k : Nat) : OutP × Nat := if k = 0 then r0 else if k = 1 then r1 else r2
/-- the two arrays -/
structure ArrK (w : World) (g ge : Nat) (r0 r1 r2 : OutP × Nat) : Prop where
  at_ : ∀ k, k < 3 → ∃ A c B d C e, OutAt w g (k * 10) (rr r0 r1 r2 k).1 A c B d C e
  er : ∀ k, k < 3 → w.cell? ⟨ge, k, none⟩ = some (.int .i64 ((rr r0 r1 r2 k).2 : Nat))
theorem arrK_of {w : World} {g ge T T2 : Nat} {L : List Value} {r0 r1 r2 : OutP × Nat} (h : AllO w L r0.1 r1.1 r2.1) (hg : Blk w g T L.toArray) (he : Blk w ge T2 (e3V r0.2 r1.2 r2.2)) : ArrK w g ge r0 r1 r2 := by
  have key : ∀ {k o}, PartO w L k o → ∃ A c B d C e, OutAt w g k o A c B d C e := fun hp => by
    obtain ⟨A, c, B, d, C, e, h1, h2⟩ := hp.ex
    refine ⟨A, c, B, d, C, e, fun j v hj => ?_, h2⟩
    rw [hg.cell]
    simpa using h1 j v hj
  refine ⟨fun k hk => ?_, fun k hk => ?_⟩
  · match k, hk with
    | 0, _ => exact key h.p0
    | 1, _ => exact key h.p1
    | 2, _ => exact key h.p2
  · match k, hk with
    | 0, _ => exact he.cell 0
    | 1, _ => exact he.cell 1
    | 2, _ => exact he.cell 2
theorem ArrK.below {w w' : World} {g ge : Nat} {r0 r1 r2 : OutP × Nat} (h : ArrK w g ge r0 r1 r2) (hb : Below w.heap.size w w') (h1 : g < w.heap.size) (h2 : ge < w.heap.size) : ArrK w' g ge r0 r1 r2 := by
  refine ⟨fun k hk => ?_, fun k hk => ?_⟩
  · obtain ⟨A, c, B, d, C, e, h3⟩ := h.at_ k hk
    exact ⟨A, c, B, d, C, e, h3.below hb h1⟩
  · rw [← h.er k hk]
    exact World.cell?_of_block (hb.block ge h2)
theorem two_new {w w5 : World} {T T2 : TypeId} {z y : Array Value} (hg : ((w.alloc (.cells z T)).alloc (.cells y T2)).grownBy w5 (some w.heap.size)) : Below w.heap.size w w5 ∧ Blk w5 (w.heap.size + 1) T2 y := by
  have k := (boxesE2 w T T2 z y).now
  exact ⟨k.2.2.grown hg k.2.2.size (fun j hj => by injection hj with hj; omega), k.2.1.grown hg (by omega)⟩
/-- the memory of the law -/
structure EdK (w0 : World) (J : Array Value) (A : Option Addr) (S : List UInt8) (l : List RunP) (g ge : Nat) (r0 r1 r2 : OutP × Nat) (wr : World) : Prop where
  job : Blk wr w0.heap.size 38 J
  bel : Below w0.heap.size w0 wr
  tx : Txu wr A S l
  arr : ArrK wr g ge r0 r1 r2
  lo : w0.heap.size < g ∧ g < wr.heap.size ∧ ge < wr.heap.size
theorem EdK.below {w0 wr w' : World} {J : Array Value} {A : Option Addr} {S : List UInt8} {l : List RunP} {g ge : Nat} {r0 r1 r2 : OutP × Nat} (h : EdK w0 J A S l g ge r0 r1 r2 wr) (hb : Below wr.heap.size wr w') : EdK w0 J A S l g ge r0 r1 r2 w' :=
  ⟨h.job.below hb h.job.lt, h.bel.trans (hb.mono h.bel.size), grow_txu h.tx _ hb, h.arr.below hb h.lo.2.1 h.lo.2.2, h.lo.1, Nat.lt_of_lt_of_le h.lo.2.1 hb.size, Nat.lt_of_lt_of_le h.lo.2.2 hb.size⟩
set_option maxHeartbeats 16000000 in
theorem operEdits_walk (w : World) (KS : OperSays w) (S : List UInt8) (A : Option Addr) (l : List RunP) (c y : Nat) (hy : y < 18446744073709551616) (op f t : Int) (hop : -2147483648 ≤ op ∧ op ≤ 2147483647) (hf : -9223372036854775808 ≤ f ∧ f ≤ 9223372036854775807) (ht : -9223372036854775808 ≤ t ∧ t ≤ 9223372036854775807) (b : Bool) (p n : Int) (hp : -9223372036854775808 ≤ p ∧ p ≤ 9223372036854775807) (hn : -9223372036854775808 ≤ n ∧ n ≤ 9223372036854775807) (X : List UInt8) (A2 : Option Addr) (m : List RunP) (c2 : Nat) (xb ah : Bool) (h : Txu w A S l) (hX : Txu w A2 X m) :
    Calls Tryz.prog 7 #[.agg (jobC S A l c y op f t b p n X A2 m c2 xb ah)] w fun e w' => e = .returned (.bool true) ∧ Below w.heap.size w w' := by
  have HS := Lib.hid KS
  have HFJ := Lib.hid (fun wx => lawFitsJ_any S A l c y op f t b p n X A2 m c2 xb ah hX.hS hX.hl wx)
  have HAL : Hid (fitsJ S l X m = true → ∀ wx, Below w.heap.size w wx → Calls Tryz.prog 24 #[.agg (jobC S A l c y op f t b p n X A2 m c2 xb ah)] wx (GivesAll wx (doM S l y op f t b) (swapM S l y p n op) (putM S l y p X m xb ah n))) := fun e wx hb => by
    unfold fitsJ at e
    simp only [Bool.and_eq_true, decide_eq_true_eq] at e
    exact lawAll_any wx (KS.at hb) S A l c y hy op f t hop hf ht b p n hp hn X A2 m c2 xb ah (grow_txu h wx hb) (grow_txu hX wx hb) (by omega) (by omega) (by omega) (by omega)
  have Q0 : Hid (AnsO S l (doM S l y op f t b)) := ⟨okO_do h.hf hy op f t b, none_do, edit_do⟩
  have Q1 : Hid (AnsO S l (swapM S l y p n op)) := ⟨okO_swap h.hf hy p n op, none_swap, edit_swap⟩
  have Q2 : Hid (AnsO S l (putM S l y p X m xb ah n)) := ⟨okO_put h.hf hy p X hX.hf xb ah n, none_put, edit_put⟩
  have HAS : Hid (∀ wx, Below w.heap.size w wx → Txu wx A S l) := grow_txu h
  generalize fitsJ S l X m = fj at *
  generalize doM S l y op f t b = r0 at *
  generalize swapM S l y p n op = r1 at *
  generalize putM S l y p X m xb ah n = r2 at *
  go_enter Tryz.func7, Tryz.ntmps7
  go_upto_region 1 with fail
  change Code.wp _ _ _ _ (w.alloc (.cells (jobC S A l c y op f t b p n X A2 m c2 xb ah) 38))
  have b0 : Below w.heap.size w (w.alloc (.cells (jobC S A l c y op f t b p n X A2 m c2 xb ah) 38)) := (Below.refl _ _).alloc (Nat.le_refl _) _
  have Kj := grow_new w 38 (jobC S A l c y op f t b p n X A2 m c2 xb ah)
  have Kb : Grow (w.alloc (.cells (jobC S A l c y op f t b p n X A2 m c2 xb ah) 38)) (fun w' => Below w.heap.size w w') := fun w' hb => b0.trans (hb.mono b0.size)
  have K := Lib.hid (Kj.and Kb)
  clear Kj Kb b0 h hX KS hop hf ht hp hn
  generalize w.alloc (.cells (jobC S A l c y op f t b p n X A2 m c2 xb ah) 38) = wb at *
  go_upto_region 3 with (go_at_call 12; refine (aliveP_any _ (HS.out.at K.out.now.2)).mono ?_; rintro e w1 ⟨rfl, bb⟩; replace K := Lib.hid (K.out.step bb); clear bb)
  obtain ⟨x0, x1, x2, x3, x4, x5, x6, x7, x8, x9, x10, x11, x12⟩ := job_cells K.out.now.1
  cases fj with
  | false =>
    go_wp2_with (go_at_call 15; refine (HFJ.out _).mono ?_; rintro e w2 ⟨rfl, bb⟩; replace K := Lib.hid (K.out.step bb); clear bb)
    go_ret
    exact ⟨rfl, K.out.now.2⟩
  | true =>
    have HA := Lib.hid (HAL.out rfl)
    go_upto_region 5 with (go_at_call 15; refine (HFJ.out _).mono ?_; rintro e w2 ⟨rfl, bb⟩; replace K := Lib.hid (K.out.step bb); clear bb x0 x1 x2 x3 x4 x5 x6 x7 x8 x9 x10 x11 x12; obtain ⟨x0, x1, x2, x3, x4, x5, x6, x7, x8, x9, x10, x11, x12⟩ := job_cells K.out.now.1)
    clear HFJ HAL
    go_upto_region 6 with (first
      | (go_at_call 24; refine (HA.out _ K.out.now.2).mono ?_; rintro e w3 ⟨L, rfl, hL, bb⟩; replace K := Lib.hid (K.out.step bb); have HL := Lib.hid hL; clear bb hL x0 x1 x2 x3 x4 x5 x6 x7 x8 x9 x10 x11 x12)
      | ((with_reducible refine at_store 56 (.tmp 3) (.tmp 18) ?_); refine wpList_setRow rfl 56 (.tmp 3) (.tmp 18) rfl w3.heap.size L.toArray rfl rfl 56 z30 ((Blk.new w3 56 z30).alloc _) (by rw [out3_facts.2]; simp [HL.out.len]) (by simp [HL.out.len, z30]) HL.out.one ?_; intro w5 k5 hg5; have q5 := two_new (w := w3) (z := z30) (y := e3V 0 0 0) hg5; obtain ⟨b5, e5⟩ := q5; clear hg5)
      | ((with_reducible refine at_store 57 (.tmp 4) (.tmp 19) ?_); refine wpList_setRow rfl 57 (.tmp 4) (.tmp 19) rfl (w3.heap.size + 1) (e3V r0.2 r1.2 r2.2) rfl rfl 57 (e3V 0 0 0) e5 (by rw [err3_facts.2]; rfl) rfl (by simp [e3V, Value.oneCell']) ?_; intro w6 k6 hg6; have b6 : Below w3.heap.size w3 w6 := b5.grown hg6 b5.size (fun j hj => by injection hj with hj; omega); have h6 : Blk w6 w3.heap.size 56 L.toArray := k5.grown hg6 (by omega); clear hg6 k5 e5 b5))
    have KE : Hid (EdK w (jobC S A l c y op f t b p n X A2 m c2 xb ah) A S l w3.heap.size (w3.heap.size + 1) r0 r1 r2 w6) := ⟨(K.out.step b6).now.1, (K.out.step b6).now.2, HAS.out _ (K.out.step b6).now.2, arrK_of (HL.out.below b6) h6 k6, K.out.now.1.lt, h6.lt, k6.lt⟩
    clear K HL k6 h6 b6 HA
    generalize w3.heap.size = g at *
    have HQ : Hid (∀ k, k < 3 → AnsO S l (rr r0 r1 r2 k)) := fun k hk => by
      match k, hk with
      | 0, _ => exact Q0.out
      | 1, _ => exact Q1.out
      | 2, _ => exact Q2.out
    clear Q0 Q1 Q2
    go_upto_region 7 with fail
    go_loopw [20] (fun i wr => ∃ k : Nat, k ≤ 3 ∧ i = .int .i64 k ∧ Hid (EdK w (jobC S A l c y op f t b p n X A2 m c2 xb ah) A S l g (g + 1) r0 r1 r2 wr)) (fun i _ => 3 - (intOf i).toNat)
    case atStart => exact ⟨0, by omega, rfl, KE⟩
    case round =>
      clear KE
      obtain ⟨k, hk, rfl, KE⟩ := hrel
      by_cases hlt : k < 3
      · have hlt' : (k : Int) < 3 := by omega
        have hk0 : (0 : Int) ≤ (k : Int) := by omega
        have KQ := Lib.hid (HQ.out k hlt)
        obtain ⟨ZA, zc, ZB, zd, ZC, ze, hat⟩ := KE.out.arr.at_ k hlt
        have her := KE.out.arr.er k hlt
        obtain ⟨o, ho⟩ : ∃ o, rr r0 r1 r2 k = o := ⟨_, rfl⟩
        rw [ho] at KQ hat her
        have HO := Lib.hid ho
        clear ho
        obtain ⟨⟨⟨ea, ES, el, EX, em⟩, RS, rl, bl, bw, ra⟩, rn⟩ := o
        have er1 : wr.cell? ⟨g + 1, k, none⟩ = some (.int .i64 (rn : Nat)) := her
        clear her
        by_cases hrn : rn = 0
        · subst hrn
          obtain ⟨U, q, hap, ha0, hal⟩ := KQ.out.yes rfl
          dsimp only at hap ha0 hal
          have HAP := Lib.hid hap
          have HBK := Lib.hid (back_ok hap)
          clear hap
          go_upto_region 12 with fail
          have hb0 : Below wr.heap.size wr wr := Below.refl _ _
          have HAT := Lib.hid hat
          clear hat er1
          have KB : Hid (∀ w', Below wr.heap.size wr w' → ((w'.cell? ⟨w.heap.size, 0, none⟩ = some (.string ⟨S.toArray⟩) ∧ w'.cell? ⟨w.heap.size, 1, none⟩ = some (.slice A l.length c)) ∧ w'.cell? ⟨g, k * 10, none⟩ = some (.int .i64 ea) ∧ w'.cell? ⟨g, k * 10 + 1, none⟩ = some (.string ⟨ES.toArray⟩) ∧ w'.cell? ⟨g, k * 10 + 2, none⟩ = some (.slice ZA el.length zc) ∧ w'.cell? ⟨g, k * 10 + 3, none⟩ = some (.string ⟨EX.toArray⟩) ∧ w'.cell? ⟨g, k * 10 + 4, none⟩ = some (.slice ZB em.length zd)) ∧ Below wr.heap.size wr w') := fun w' hb => by
            have h1 := (KE.out.below hb).job
            have h2 := HAT.out.below hb KE.out.lo.2.1
            exact ⟨⟨⟨h1.cell 0, h1.cell 1⟩, h2.cells 0 _ rfl, h2.cells 1 _ rfl, h2.cells 2 _ rfl, h2.cells 3 _ rfl, h2.cells 4 _ rfl⟩, hb⟩
          have TA := Lib.hid (refApplyO_in (wb := wr) (A4 := A) (c4 := c) HAP.out (fun w' hb => (KE.out.below hb).tx))
          have HTX := Lib.hid (fun w' (hb : Below wr.heap.size wr w') => (HAT.out.below hb KE.out.lo.2.1).tx)
          go_cut [6, 7] (fun s6 s7 wx => ∃ g6 A6 c6, s6 = .pointer (some ⟨g6, 0, none⟩) ∧ s7 = .int .i64 0 ∧ Below wr.heap.size wr wx ∧ Blk wx g6 32 #[.string ⟨U.toArray⟩, .slice A6 q.length c6] ∧ Txu wx A6 U q)
          case first =>
            go_region_held3 (fun w' => ((w'.cell? ⟨w.heap.size, 0, none⟩ = some (.string ⟨S.toArray⟩) ∧ w'.cell? ⟨w.heap.size, 1, none⟩ = some (.slice A l.length c)) ∧ w'.cell? ⟨g, k * 10, none⟩ = some (.int .i64 ea) ∧ w'.cell? ⟨g, k * 10 + 1, none⟩ = some (.string ⟨ES.toArray⟩) ∧ w'.cell? ⟨g, k * 10 + 2, none⟩ = some (.slice ZA el.length zc) ∧ w'.cell? ⟨g, k * 10 + 3, none⟩ = some (.string ⟨EX.toArray⟩) ∧ w'.cell? ⟨g, k * 10 + 4, none⟩ = some (.slice ZB em.length zd)) ∧ Below wr.heap.size wr w')
              (first | (refine KB.out _ ?_; (repeat (first | assumption | refine belowT_dr ?_ | refine belowT_al ?_ (Nat.le_refl _) | (refine Below.setCell ?_ ?_ _; rotate_left; (first | focus (simp; done) | focus (simp; omega))))); done))
              (first
                | (go_at_call 25; refine (TA.out _ ?_ ZA zc ZB zd (HTX.out _ ?_).s (HTX.out _ ?_).x).mono ?_; (repeat (first | assumption | refine belowT_dr ?_ | refine belowT_al ?_ (Nat.le_refl _))); rintro e w8 ⟨A8, c8, rfl, ri, hbx, hby⟩; have hzy := hbx.size; first | (refine use_factT (knT_one_drew hby) ?_; intro a1; obtain ⟨⟨b1, b2⟩, ⟨b3, b4⟩, b5, b6, b7⟩ := knT_of a1; have AV := Lib.hid a1; clear a1) | skip))
            all_goals go_wp2_with fail
            all_goals go_meet
            all_goals
              refine ⟨_, A8, c8, rfl, rfl, ?_, ?_, ?_⟩
              · repeat (first | assumption | refine belowT_dr ?_ | refine belowT_al ?_ (Nat.le_refl _) | (refine Below.setCell ?_ ?_ _; rotate_left; (first | focus (simp; done) | focus (simp; omega))))
              · first | with_reducible exact Blk.new _ _ _ | exact blk_two AV.out _ _
              · first | with_reducible exact (ri.out.alloc _).now | exact (Txt.setV ri.out.now AV.out _ _).more (by simp)
          case rest =>
            obtain ⟨g6, A6, c6, rfl, rfl, hbc, n1, t1⟩ := hcut
            have KE2 := Lib.hid (KE.out.below hbc)
            have HAT2 := Lib.hid (HAT.out.below hbc KE.out.lo.2.1)
            have HU := Lib.hid ((grow_txu t1).and (fun w' hb => n1.below hb n1.lt))
            clear KB TA HTX KE HAT hb0 hbc n1 t1 HAP
            have d9 : ∀ n, (wc.drewN n).cell? ⟨g, k * 10 + 9, none⟩ = some (.int .i64 ra) := fun n => HAT2.out.cells 9 _ rfl
            have dU : ∀ n, (wc.drewN n).cell? ⟨g6, 0, none⟩ = some (.string ⟨U.toArray⟩) := fun n => (txt_cells HU.out.now.2).1
            have q1 : decide (ra < 0) = false := decide_eq_false (by omega)
            have q2 : decide ((U.length : Int) < ra) = false := decide_eq_false (by omega)
            go_upto_region 13 with fail
            go_quiet (fail)
            go_upto_region 15 with fail
            have hdr : Below wc.heap.size wc (wc.drewN nq) := below_drewN (Below.refl _ _) nq
            replace KE2 := Lib.hid (KE2.out.below hdr)
            replace HAT2 := Lib.hid (HAT2.out.below hdr (by have := KE2.out.lo.2.1; simpa using this))
            replace HU := Lib.hid (HU.out.step hdr)
            clear d9 dU q1 q2 hdr ha0 hal
            generalize wc.drewN nq = wb at *
            have hb0 : Below wb.heap.size wb wb := Below.refl _ _
            have KB : Hid (∀ w', Below wb.heap.size wb w' → ((w'.cell? ⟨g6, 0, none⟩ = some (.string ⟨U.toArray⟩) ∧ w'.cell? ⟨g6, 1, none⟩ = some (.slice A6 q.length c6)) ∧ w'.cell? ⟨g, k * 10, none⟩ = some (.int .i64 ea) ∧ w'.cell? ⟨g, k * 10 + 1, none⟩ = some (.string ⟨ES.toArray⟩) ∧ w'.cell? ⟨g, k * 10 + 2, none⟩ = some (.slice ZA el.length zc) ∧ w'.cell? ⟨g, k * 10 + 3, none⟩ = some (.string ⟨EX.toArray⟩) ∧ w'.cell? ⟨g, k * 10 + 4, none⟩ = some (.slice ZB em.length zd)) ∧ Below wb.heap.size wb w') := fun w' hb => by
              have h2 := HAT2.out.below hb KE2.out.lo.2.1
              exact ⟨⟨txt_cells (HU.out w' hb).2, h2.cells 0 _ rfl, h2.cells 1 _ rfl, h2.cells 2 _ rfl, h2.cells 3 _ rfl, h2.cells 4 _ rfl⟩, hb⟩
            have TI := Lib.hid (refInvertO_in (wb := wb) (a := ea) (A := ZA) (A2 := ZB) (c := zc) (d := zd) (S := ES) (l := el) (X := EX) (m := em) (fun w' hb => (HAT2.out.below hb KE2.out.lo.2.1).tx.s) (fun w' hb => (HAT2.out.below hb KE2.out.lo.2.1).tx.x))
            have TA := Lib.hid (refApplyO_in (wb := wb) (A4 := A6) (c4 := c6) HBK.out (fun w' hb => (HU.out w' hb).1))
            go_cut [8, 9] (fun s8 s9 wx => ∃ g8 A8 c8, s8 = .pointer (some ⟨g8, 0, none⟩) ∧ s9 = .int .i64 0 ∧ Below wb.heap.size wb wx ∧ Blk wx g8 32 #[.string ⟨S.toArray⟩, .slice A8 l.length c8] ∧ Txu wx A8 S l)
            case first =>
              go_region_held3 (fun w' => ((w'.cell? ⟨g6, 0, none⟩ = some (.string ⟨U.toArray⟩) ∧ w'.cell? ⟨g6, 1, none⟩ = some (.slice A6 q.length c6)) ∧ w'.cell? ⟨g, k * 10, none⟩ = some (.int .i64 ea) ∧ w'.cell? ⟨g, k * 10 + 1, none⟩ = some (.string ⟨ES.toArray⟩) ∧ w'.cell? ⟨g, k * 10 + 2, none⟩ = some (.slice ZA el.length zc) ∧ w'.cell? ⟨g, k * 10 + 3, none⟩ = some (.string ⟨EX.toArray⟩) ∧ w'.cell? ⟨g, k * 10 + 4, none⟩ = some (.slice ZB em.length zd)) ∧ Below wb.heap.size wb w')
                (first | (refine KB.out _ ?_; (repeat (first | assumption | refine belowT_dr ?_ | refine belowT_al ?_ (Nat.le_refl _) | (refine Below.setCell ?_ ?_ _; rotate_left; (first | focus (simp; done) | focus (simp; omega))))); done))
                (first
                  | (go_at_call 26; refine (TI.out _ ?_).mono ?_; (repeat (first | assumption | refine belowT_dr ?_ | refine belowT_al ?_ (Nat.le_refl _))); rintro e w7 ⟨B1, k1, B2, k2, rfl, ri, hbx, hby⟩; have hzy := hbx.size; first | (refine use_factT (knT_one_drew hby) ?_; intro a1; obtain ⟨⟨b1, b2⟩, ⟨b3, b4⟩, b5, b6, b7⟩ := knT_of a1; have AV := Lib.hid a1; clear a1) | skip)
                  | (go_at_call 25; refine (TA.out _ ?_ B1 k1 B2 k2 ?_ ?_).mono ?_; (repeat (first | assumption | refine belowT_dr ?_ | refine belowT_al ?_ (Nat.le_refl _))); (first | exact ri.out.now.1 | exact (ri.out.alloc _).now.1); (first | exact ri.out.now.2 | exact (ri.out.alloc _).now.2); rintro e w8 ⟨A8, c8, rfl, rq, hbx, hby⟩; have hzy := hbx.size; first | (refine use_factT (knT_one hby) ?_; intro a1; obtain ⟨⟨b1, b2⟩, ⟨b3, b4⟩, b5, b6, b7⟩ := knT_of a1; have AV := Lib.hid a1; clear a1) | (refine use_factT (blkT_step AV.out hby) ?_; intro a1; obtain ⟨⟨b1, b2⟩, ⟨b3, b4⟩, b5, b6, b7⟩ := knT_of a1; have AV := Lib.hid a1; clear a1) | skip))
              all_goals go_wp2_with fail
              all_goals go_meet
              all_goals
                refine ⟨_, A8, c8, rfl, rfl, ?_, ?_, ?_⟩
                · repeat (first | assumption | refine belowT_dr ?_ | refine belowT_al ?_ (Nat.le_refl _) | (refine Below.setCell ?_ ?_ _; rotate_left; (first | focus (simp; done) | focus (simp; omega))))
                · first | with_reducible exact Blk.new _ _ _ | exact blk_two AV.out _ _
                · first | with_reducible exact (rq.out.alloc _).now | exact (Txt.setV rq.out.now AV.out _ _).more (by simp)
            case rest =>
              obtain ⟨g8, A8, c8, rfl, rfl, hbc, n1, t1⟩ := hcut
              have KE3 := Lib.hid (KE2.out.below hbc)
              clear KB TI TA KE2 HAT2 HU hb0 hbc HBK
              have HT := Lib.hid t1
              obtain ⟨x0, x1, x2, x3, x4, x5, x6, x7, x8, x9, x10, x11, x12⟩ := job_cells KE3.out.job
              obtain ⟨y0, y1⟩ := txt_cells n1
              go_wp2_with (go_at_call 27; refine (refTSame_any A8 A c8 c _ _ S S l l _ (Nat.le_refl _) (Nat.le_refl _) HT.out KE3.out.tx).mono ?_; rw [show decide (S = S ∧ l = l) = true from decide_eq_true ⟨rfl, rfl⟩]; rintro e wh ⟨rfl, bb⟩; replace KE3 := Lib.hid (KE3.out.below bb); clear bb x0 x1 x2 x3 x4 x5 x6 x7 x8 x9 x10 x11 x12 y0 y1)
              go_roundw
              case rel => exact ⟨k + 1, by omega, by go_num, KE3⟩
              case measure => simp [intOf]; omega
        · have hno := KQ.out.no hrn
          have e1 : ((rn : Int) != 0) = true := by rw [bne_iff_ne]; omega
          injection hno with hE hr1 hr2 hr3 hr4 hr5
          injection hE with hE1 hE2 hE3 hE4 hE5
          subst hE1 hE2 hE3 hE4 hE5 hr1 hr2 hr3 hr4 hr5
          have HAT := Lib.hid hat
          clear hat
          go_wp2_with (first
            | ((with_reducible refine at_load 43 (.tmp 28) ?_); refine wpList_load_mid rfl 43 (.tmp 28) rfl g (k * 10) rfl (outV ⟨⟨0, [], [], [], []⟩, [], [], false, false, 0⟩ ZA zc ZB zd ZC ze) _ HAT.out.cells Tryz.underlying43 rfl out_size ?_)
            | (go_at_call 19; refine (lawOurs_any 0 [] ZA [] zc [] ZB [] zd [] ZC [] ze false false 0 _).mono ?_; rintro e w4 ⟨rfl, bb⟩; replace KE := Lib.hid (KE.out.below bb); replace HAT := Lib.hid (HAT.out.tx.below bb); clear bb)
            | (go_at_call 18; refine (refPSame_any ZA ZB ZC none none none zc zd ze 0 0 0 0 [] [] [] [] [] [] false false 0 _ HAT.out.s HAT.out.x HAT.out.r (txu_nilO _) (txu_nilO _) (txu_nilO _)).mono ?_; rintro e w5 ⟨rfl, bb⟩; replace KE := Lib.hid (KE.out.below bb); clear bb))
          go_roundw
          case rel => exact ⟨k + 1, by omega, by go_num, KE⟩
          case measure => simp [intOf]; omega
      · have hlt' : ¬ (k : Int) < 3 := by omega
        go_wp2_with fail
        go_ret
        exact ⟨rfl, KE.out.bel⟩
end Go.Proofs.YtgpmfkedcoiopaaGreatDoor

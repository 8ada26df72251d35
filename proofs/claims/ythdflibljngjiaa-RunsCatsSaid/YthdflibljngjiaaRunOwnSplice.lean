/-
  The landed Splice, Cat: layer 3.
-/
import Derived.Test.YthdflibljngjiaaRunEachS
import Derived.Deep.RegionHeld3
import Derived.Deep.DeepCutAuto
namespace Go.Proofs.Ythdflibljngjiaa
open Go.RowKit

theorem box_facts (w : World) (T0 T1 T2 T3 : TypeId) (v0 v1 v2 v3 : Value) :
    Below w.heap.size w ((((w.alloc (.cells #[v0] T0)).alloc (.cells #[v1] T1)).alloc (.cells #[v2] T2)).alloc (.cells #[v3] T3)) ∧
    ((((w.alloc (.cells #[v0] T0)).alloc (.cells #[v1] T1)).alloc (.cells #[v2] T2)).alloc (.cells #[v3] T3)).heap.size = w.heap.size + 4 ∧
    Blk ((((w.alloc (.cells #[v0] T0)).alloc (.cells #[v1] T1)).alloc (.cells #[v2] T2)).alloc (.cells #[v3] T3)) w.heap.size T0 #[v0] ∧
    Blk ((((w.alloc (.cells #[v0] T0)).alloc (.cells #[v1] T1)).alloc (.cells #[v2] T2)).alloc (.cells #[v3] T3)) (w.heap.size + 1) T1 #[v1] ∧
    Blk ((((w.alloc (.cells #[v0] T0)).alloc (.cells #[v1] T1)).alloc (.cells #[v2] T2)).alloc (.cells #[v3] T3)) (w.heap.size + 1 + 1) T2 #[v2] ∧
    Blk ((((w.alloc (.cells #[v0] T0)).alloc (.cells #[v1] T1)).alloc (.cells #[v2] T2)).alloc (.cells #[v3] T3)) (w.heap.size + 1 + 1 + 1) T3 #[v3] := by
  have e1 : (w.alloc (.cells #[v0] T0)).heap.size = w.heap.size + 1 := by simp
  have e2 : ((w.alloc (.cells #[v0] T0)).alloc (.cells #[v1] T1)).heap.size = w.heap.size + 1 + 1 := by simp
  have e3 : (((w.alloc (.cells #[v0] T0)).alloc (.cells #[v1] T1)).alloc (.cells #[v2] T2)).heap.size = w.heap.size + 1 + 1 + 1 := by simp
  refine ⟨((((Below.refl _ w).alloc (Nat.le_refl _) _).alloc (by omega) _).alloc (by omega) _).alloc (by omega) _, by simp, (((Blk.new w T0 #[v0]).alloc _).alloc _).alloc _, ?_, ?_, ?_⟩
  · rw [← e1]; exact ((Blk.new _ T1 #[v1]).alloc _).alloc _
  · rw [← e2]; exact (Blk.new _ T2 #[v2]).alloc _
  · rw [← e3]; exact Blk.new _ T3 #[v3]

theorem below_al {B : Nat} {a b : World} {o : Obj} (h : Below B a b) (hB : B ≤ a.heap.size) : Below B a (b.alloc o) := h.alloc (Nat.le_trans hB h.size) o
theorem below_dr {B : Nat} {a b : World} (h : Below B a b) : Below B a b.drew := h.drew
/-- a variable of the call's own, known and free -/
def Kn (w : World) (k : Nat) : Prop := w.cell? ⟨k, 0, none⟩ = some (.int .i64 0) ∧ w.frozen? ⟨k, 0, none⟩ = false ∧ k < w.heap.size ∧ k ≠ w.heap.size ∧ w.heap.size ≠ k
theorem kn_of {w : World} {k : Nat} (h : Blk w k 3 #[.int .i64 0]) : Kn w k := by
  have := h.lt
  exact ⟨by have := h.cell 0; simpa using this, h.frozen 0, this, by omega, by omega⟩
theorem kn_one {X w' : World} (hb : Below (X.alloc (.cells #[.int .i64 0] 3)).heap.size (X.alloc (.cells #[.int .i64 0] 3)) w') : Blk w' X.heap.size 3 #[.int .i64 0] :=
  (Blk.new X _ _).below hb (by simp)
theorem kn_one_drew {X w' : World} (hb : Below (X.alloc (.cells #[.int .i64 0] 3)).drew.heap.size (X.alloc (.cells #[.int .i64 0] 3)).drew w') : Blk w' X.heap.size 3 #[.int .i64 0] :=
  (Blk.new X _ _).drew.below hb (by show _ < (X.alloc _).heap.size; simp)
theorem kn_two {X w' : World} (hb : Below ((X.alloc (.cells #[.int .i64 0] 3)).alloc (.cells #[.int .i64 0] 3)).heap.size ((X.alloc (.cells #[.int .i64 0] 3)).alloc (.cells #[.int .i64 0] 3)) w') : Blk w' X.heap.size 3 #[.int .i64 0] ∧ Blk w' (X.heap.size + 1) 3 #[.int .i64 0] :=
  ⟨((Blk.new X _ _).alloc _).below hb (by simp; omega), by have := (Blk.new (X.alloc (.cells #[.int .i64 0] 3)) 3 #[.int .i64 0]).below hb (by simp); simpa using this⟩
theorem kn_two_drew {X w' : World} (hb : Below ((X.alloc (.cells #[.int .i64 0] 3)).alloc (.cells #[.int .i64 0] 3)).drew.heap.size ((X.alloc (.cells #[.int .i64 0] 3)).alloc (.cells #[.int .i64 0] 3)).drew w') : Blk w' X.heap.size 3 #[.int .i64 0] ∧ Blk w' (X.heap.size + 1) 3 #[.int .i64 0] :=
  kn_two ⟨hb.os, hb.tape, hb.output, hb.size, hb.block⟩
theorem blk_step {W w' : World} {k T : Nat} {cs : Array Value} (h : Blk W k T cs) (hb : Below W.heap.size W w') : Blk w' k T cs := h.below hb h.lt
theorem blk_new1 (X : World) (a : Obj) (T : TypeId) (cs : Array Value) : Blk ((X.alloc a).alloc (.cells cs T)) (X.heap.size + 1) T cs := by
  have := Blk.new (X.alloc a) T cs
  simpa using this
theorem blk_newS (X : World) (p : Addr) (u : Value) (T : TypeId) (cs : Array Value) : Blk ((X.setCell p u).alloc (.cells cs T)) X.heap.size T cs := by
  have := Blk.new (X.setCell p u) T cs
  simpa using this
theorem blk_set0 {X : World} {k T : Nat} {v : Value} (h : Blk X k T #[v]) (u : Value) : Blk (X.setCell ⟨k, 0, none⟩ u) k T #[u] := by
  have := h.set_ 0 u
  simpa using this
theorem use_fact {p G : Prop} (h : p) (k : p → G) : G := k h
theorem keep_S {P : World → Prop} {w2 : World} (h : ∀ w', Below w2.heap.size w2 w' → P w') : ∀ w', Below w2.heap.size w2 w' → P w' := h

set_option maxHeartbeats 1000000 in
theorem runSplice_any (A A2 : Option Addr) (c d B B2 : Nat) (l m : List RunP) (f t : Int) (hf : Fits l) (hf2 : Fits m) (hlen : l.length ≤ maxLen) (hlen2 : m.length ≤ maxLen) (w : World) (hB : B ≤ w.heap.size) (hB2 : B2 ≤ w.heap.size) (h : Row w B A (flatR l)) (hh : Row w B2 A2 (flatR m)) :
    Calls Try.prog 27 #[.slice A l.length c, .int .i64 f, .int .i64 t, .slice A2 m.length d] w (Gives w (spliceOf l f t m)) := by
  have HF := Lib.hid hf
  have HF2 := Lib.hid hf2
  clear hf hf2
  have Q := Lib.hid (box_facts w 22 3 3 22 (.slice A l.length c) (.int .i64 f) (.int .i64 t) (.slice A2 m.length d))
  have HRW := Lib.hid (h.below (Q.out.1.mono hB))
  have HRW2 := Lib.hid (hh.below (Q.out.1.mono hB2))
  by_cases hw : withinB l f t = true
  · obtain ⟨hg, h0, h1, h2, h3, hs⟩ := within_of hw
    by_cases hg2 : goodB m = true
    · have hs2 := ((goodB_iff m).1 hg2).1
      have hl2 : (bytesOf m).length ≤ 4096 := by rw [bytesOf_len]; exact hs2
      have HT := Lib.hid (totalOf_good hg)
      have HT2 := Lib.hid (totalOf_good hg2)
      go_enter Try.func27, Try.ntmps27
      go_upto_region 3 with (first
        | (go_at_call 37; refine (runWithin_any A c B l f t HF.out hlen _ (by rw [Q.out.2.1]; omega) HRW.out).mono ?_; rintro e w1 ⟨rfl, hb1⟩; rw [hw]; have z1 : w.heap.size + 4 ≤ w1.heap.size := by {have := hb1.size; rw [Q.out.2.1] at this; exact this}; have c3 := (Q.out.2.2.2.2.2.below hb1 (by rw [Q.out.2.1]; omega)).cell 0; simp at c3)
        | (go_at_call 15; refine (runGood_any A2 d B2 m HF2.out hlen2 w1 (by omega) (HRW2.out.below (hb1.mono (by rw [Q.out.2.1]; omega)))).mono ?_; rintro e w2 ⟨rfl, hb2⟩; rw [hg2]; have z2 := hb2.size; clear c3))
      have W2 := Lib.hid (And.intro (Q.out.1.trans ((hb1.mono (by rw [Q.out.2.1]; omega)).trans (hb2.mono (by omega)))) (And.intro ((Q.out.2.2.1.below hb1 (by rw [Q.out.2.1]; omega)).below hb2 (by omega)) (And.intro ((Q.out.2.2.2.1.below hb1 (by rw [Q.out.2.1]; omega)).below hb2 (by omega)) (And.intro ((Q.out.2.2.2.2.1.below hb1 (by rw [Q.out.2.1]; omega)).below hb2 (by omega)) ((Q.out.2.2.2.2.2.below hb1 (by rw [Q.out.2.1]; omega)).below hb2 (by omega))))))
      have Z2 : w.heap.size + 4 ≤ w2.heap.size := by omega
      have KS := Lib.hid (keep_S (P := fun w' => w'.cell? ⟨w.heap.size, 0, none⟩ = some (.slice A l.length c) ∧ w'.cell? ⟨w.heap.size + 1 + 1 + 1, 0, none⟩ = some (.slice A2 m.length d) ∧ Below w2.heap.size w2 w') (fun w' hb => ⟨by have := (W2.out.2.1.below hb (by omega)).cell 0; simpa using this, by have := (W2.out.2.2.2.2.below hb (by omega)).cell 0; simpa using this, hb⟩))
      clear hb1 hb2 z1 z2 Q HRW HRW2
      go_cut [10, 11] (fun s10 s11 wx => ∃ g1 g2 : Nat, s10 = .pointer (some ⟨g1, 0, none⟩) ∧ s11 = .pointer (some ⟨g2, 0, none⟩) ∧ Below w2.heap.size w2 wx ∧ Blk wx g1 3 #[.int .i64 ((bytesOf l).length : Nat)] ∧ Blk wx g2 3 #[.int .i64 ((bytesOf m).length : Nat)])
      case first =>
        have hb0 : Below w2.heap.size w2 w2 := Below.refl _ _
        have TL : Hid (∀ w', Below w2.heap.size w2 w' → Calls Try.prog 17 #[.slice A l.length c] w' fun e w'' => e = .returned (.int .i64 ((bytesOf l).length : Nat)) ∧ Below w2.heap.size w2 w'' ∧ Below w'.heap.size w' w'') := fun w' hb => by
          have hz := hb.size
          refine (runTotal_any A c B l HF.out hlen w' (by omega) (h.below ((W2.out.1.trans (hb.mono (by omega))).mono hB))).mono ?_
          rintro e w3 ⟨rfl, hb3⟩
          exact ⟨by rw [HT.out], hb.trans (hb3.mono hz), hb3⟩
        have TM : Hid (∀ w', Below w2.heap.size w2 w' → Calls Try.prog 17 #[.slice A2 m.length d] w' fun e w'' => e = .returned (.int .i64 ((bytesOf m).length : Nat)) ∧ Below w2.heap.size w2 w'' ∧ Below w'.heap.size w' w'') := fun w' hb => by
          have hz := hb.size
          refine (runTotal_any A2 d B2 m HF2.out hlen2 w' (by omega) (hh.below ((W2.out.1.trans (hb.mono (by omega))).mono hB2))).mono ?_
          rintro e w3 ⟨rfl, hb3⟩
          exact ⟨by rw [HT2.out], hb.trans (hb3.mono hz), hb3⟩
        go_region_held3 (fun w' => w'.cell? ⟨w.heap.size, 0, none⟩ = some (.slice A l.length c) ∧ w'.cell? ⟨w.heap.size + 1 + 1 + 1, 0, none⟩ = some (.slice A2 m.length d) ∧ Below w2.heap.size w2 w')
          ((refine KS.out _ ?_; (repeat (first | assumption | refine below_dr ?_ | refine below_al ?_ (Nat.le_refl _) | (refine Below.setCell ?_ ?_ _; rotate_left; (first | focus (simp; done) | focus (simp; omega))))); done))
          (first
            | (go_at_call_of 17 l; refine (TL.out _ ?_).mono ?_; (repeat (first | assumption | refine below_dr ?_ | refine below_al ?_ (Nat.le_refl _))); rintro e w3 ⟨rfl, hbx, hby⟩; have hzy := hbx.size; first | ((refine use_fact (kn_two_drew hby) ?_; intro a2; obtain ⟨b1, b2, b3, b4, b5⟩ := kn_of a2.1; obtain ⟨b6, b7, b8, b9, b10⟩ := kn_of a2.2; have A22 := Lib.hid a2; clear a2)) | ((refine use_fact (kn_one_drew hby) ?_; intro a1; obtain ⟨b1, b2, b3, b4, b5⟩ := kn_of a1; have A1 := Lib.hid a1; clear a1)) | skip)
            | (go_at_call_of 17 m; refine (TM.out _ ?_).mono ?_; (repeat (first | assumption | refine below_dr ?_ | refine below_al ?_ (Nat.le_refl _))); rintro e w4 ⟨rfl, hbx, hby⟩; have hzy := hbx.size; (first | ((refine use_fact (kn_two hby) ?_; intro a2; obtain ⟨b1, b2, b3, b4, b5⟩ := kn_of a2.1; obtain ⟨b6, b7, b8, b9, b10⟩ := kn_of a2.2; have A3 := Lib.hid a2; clear a2)) | ((refine use_fact (kn_one hby) ?_; intro a1; obtain ⟨b1, b2, b3, b4, b5⟩ := kn_of a1; have A4 := Lib.hid a1; clear a1)) | skip); (try (refine use_fact (blk_step A1.out hby) ?_; intro a1; obtain ⟨b1, b2, b3, b4, b5⟩ := kn_of a1; have A5 := Lib.hid a1; clear a1)); (try (refine use_fact (blk_step (Blk.alloc A1.out _) hby) ?_; intro a1; obtain ⟨b1, b2, b3, b4, b5⟩ := kn_of a1; have A5 := Lib.hid a1; clear a1)); (try (refine use_fact (blk_step A22.out.1 hby) ?_; intro a1; obtain ⟨b1, b2, b3, b4, b5⟩ := kn_of a1; have A6 := Lib.hid a1; clear a1)); (try (refine use_fact (blk_step A22.out.2 hby) ?_; intro a1; obtain ⟨b1, b2, b3, b4, b5⟩ := kn_of a1; have A7 := Lib.hid a1; clear a1))))
        all_goals go_wp2_with fail
        all_goals go_meet
        all_goals
          refine ⟨_, _, rfl, rfl, ?_, ?_, ?_⟩
          · repeat (first | assumption | refine below_dr ?_ | refine below_al ?_ (Nat.le_refl _) | (refine Below.setCell ?_ ?_ _; rotate_left; (first | focus (simp; done) | focus (simp; omega))))
          · repeat (first
              | with_reducible exact Blk.new _ _ _
              | with_reducible exact blk_new1 _ _ _ _
              | with_reducible exact blk_newS _ _ _ _ _
              | with_reducible exact A3.out.1
              | with_reducible exact A3.out.2
              | with_reducible exact A4.out
              | with_reducible exact A5.out
              | with_reducible exact A6.out
              | with_reducible exact A7.out
              | with_reducible refine blk_set0 (v := .int .i64 0) ?_ _
              | with_reducible refine Blk.alloc ?_ _
              | (with_reducible refine Blk.far ?_ ?_ _; rotate_left; (first | focus (simp; done) | focus (simp; omega) | focus (show _ ≠ _; omega))))
          · repeat (first
              | with_reducible exact Blk.new _ _ _
              | with_reducible exact blk_new1 _ _ _ _
              | with_reducible exact blk_newS _ _ _ _ _
              | with_reducible exact A3.out.1
              | with_reducible exact A3.out.2
              | with_reducible exact A4.out
              | with_reducible exact A5.out
              | with_reducible exact A6.out
              | with_reducible exact A7.out
              | with_reducible refine blk_set0 (v := .int .i64 0) ?_ _
              | with_reducible refine Blk.alloc ?_ _
              | (with_reducible refine Blk.far ?_ ?_ _; rotate_left; (first | focus (simp; done) | focus (simp; omega) | focus (show _ ≠ _; omega))))
      case rest =>
        obtain ⟨g1, g2, rfl, rfl, hb3, n1, n2⟩ := hcut
        have z3 := hb3.size
        have W3 := Lib.hid (And.intro (W2.out.1.trans (hb3.mono (by omega))) (And.intro (W2.out.2.1.below hb3 (by omega)) (And.intro (W2.out.2.2.1.below hb3 (by omega)) (And.intro (W2.out.2.2.2.1.below hb3 (by omega)) (W2.out.2.2.2.2.below hb3 (by omega))))))
        have x1 := n1.cell 0
        have x2 := n2.cell 0
        have x3 := W3.out.2.2.1.cell 0
        have x4 := W3.out.2.2.2.1.cell 0
        simp at x1 x2 x3 x4
        have l1 := n1.lt
        have l2 := n2.lt
        by_cases hbig : ((bytesOf l).length : Int) - (t - f) + ((bytesOf m).length : Int) ≤ 4096
        · have HR := Lib.hid (spliceOf_ok hw hg2 hbig)
          go_wp2_with fail
          refine (runMerged_any 42 ent_splice _ ((bytesOf l).take f.toNat ++ bytesOf m ++ (bytesOf l).drop t.toNat) wc fun w2' hG hb2' => ?_).mono ?_
          · exact spliceEach_any wc.heap.size w.heap.size (w.heap.size + 1) (w.heap.size + 1 + 1 + 1) g2 (w.heap.size + 1 + 1) g1 A A2 c d B B2 l m f t HF.out HF2.out hlen hlen2 hg hg2 h0 h1 h2 h3 hl2 w2' hG (by omega) (by omega)
              (h.below ((W3.out.1.trans (hb2'.mono (by omega))).mono hB)) (hh.below ((W3.out.1.trans (hb2'.mono (by omega))).mono hB2))
              (W3.out.2.1.below hb2' (by omega)) (W3.out.2.2.1.below hb2' (by omega)) (W3.out.2.2.2.2.below hb2' (by omega)) (n2.below hb2' l2) (W3.out.2.2.2.1.below hb2' (by omega)) (n1.below hb2' l1) (by omega) (by omega) (by omega) (by omega) (by omega) (by omega)
          · rintro e w5 ⟨A5, c5, rfl, hown5, hb5⟩
            generalize (bytesOf l).take f.toNat ++ bytesOf m ++ (bytesOf l).drop t.toNat = X at *
            go_wp2
            go_ret2
            rw [HR.out]
            exact ⟨A5, c5, rfl, own_base hown5 (by omega), W3.out.1.trans (hb5.mono (by omega))⟩
        · have HR := Lib.hid (spliceOf_big hw hg2 hbig)
          go_wp2
          go_ret2
          rw [HR.out]
          exact gives_nil W3.out.1
    · have HR := Lib.hid (spliceOf_bad (l := l) (f := f) (t := t) (m := m) (fun h => hg2 h.2))
      have hg2' : goodB m = false := by simpa using hg2
      go_enter Try.func27, Try.ntmps27
      go_wp2_with (first
        | (go_at_call 37; refine (runWithin_any A c B l f t HF.out hlen _ (by rw [Q.out.2.1]; omega) HRW.out).mono ?_; rintro e w1 ⟨rfl, hb1⟩; rw [hw]; have z1 : w.heap.size + 4 ≤ w1.heap.size := by {have := hb1.size; rw [Q.out.2.1] at this; exact this}; have c3 := (Q.out.2.2.2.2.2.below hb1 (by rw [Q.out.2.1]; omega)).cell 0; simp at c3)
        | (go_at_call 15; refine (runGood_any A2 d B2 m HF2.out hlen2 w1 (by omega) (HRW2.out.below (hb1.mono (by rw [Q.out.2.1]; omega)))).mono ?_; rintro e w2 ⟨rfl, hb2⟩; rw [hg2']; have z2 := hb2.size; clear c3))
      go_ret2
      rw [HR.out]
      exact gives_nil (Q.out.1.trans ((hb1.mono (by rw [Q.out.2.1]; omega)).trans (hb2.mono (by omega))))
  · have HR := Lib.hid (spliceOf_bad (l := l) (f := f) (t := t) (m := m) (fun h => hw h.1))
    have hw' : withinB l f t = false := by simpa using hw
    go_enter Try.func27, Try.ntmps27
    go_wp2_with (go_at_call 37; refine (runWithin_any A c B l f t HF.out hlen _ (by rw [Q.out.2.1]; omega) HRW.out).mono ?_; rintro e w1 ⟨rfl, hb1⟩; rw [hw'])
    go_ret2
    rw [HR.out]
    exact gives_nil (Q.out.1.trans (hb1.mono (by rw [Q.out.2.1]; omega)))
end Go.Proofs.Ythdflibljngjiaa

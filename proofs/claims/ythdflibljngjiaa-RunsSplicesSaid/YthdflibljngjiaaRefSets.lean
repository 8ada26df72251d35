/-
  Contracts of the document's own answers, layer 1: Label, Join, Meet, Below.
-/
import Derived.Test.YthdflibljngjiaaRefMarks
namespace Go.Proofs.Ythdflibljngjiaa
open Go.RowKit

theorem bits_eq {a b : Nat} (ha : a < 18446744073709551616) (hb : b < 18446744073709551616) (h : ∀ i, i < 64 → a.testBit i = b.testBit i) : a = b := by
  refine Nat.eq_of_testBit_eq (fun i => ?_)
  by_cases hi : i < 64
  · exact h i hi
  · have e : ∀ {x : Nat}, x < 18446744073709551616 → x.testBit i = false := fun {x} hx =>
      Nat.testBit_lt_two_pow (Nat.lt_of_lt_of_le (show x < 2 ^ 64 from hx) (Nat.pow_le_pow_right (by decide) (by omega)))
    rw [e ha, e hb]

/-- the bits above k, moved down -/
def Upper (f : Nat → Bool) (k n : Nat) : Prop := n < 2 ^ (63 - k) ∧ ∀ j, j < 63 - k → n.testBit j = f (k + 1 + j)
theorem Upper.start (f : Nat → Bool) : Upper f 63 0 := ⟨by decide, fun j hj => absurd hj (by omega)⟩
theorem double_bit (n : Nat) (b : Bool) (j : Nat) : (2 * n + b.toNat).testBit j = if j = 0 then b else n.testBit (j - 1) := by
  cases j with
  | zero => cases b <;> simp [Nat.testBit_zero] <;> omega
  | succ j =>
    rw [Nat.testBit_succ]
    have : (2 * n + b.toNat) / 2 = n := by cases b <;> simp <;> omega
    rw [this]; simp
theorem Upper.lt {f : Nat → Bool} {k n : Nat} (h : Upper f k n) : n < 9223372036854775808 := Nat.lt_of_lt_of_le h.1 (show 2 ^ (63 - k) ≤ 2 ^ 63 from Nat.pow_le_pow_right (by decide) (by omega))
theorem Upper.down {f : Nat → Bool} {k n : Nat} (hk : k + 1 ≤ 63) (h : Upper f (k + 1) n) : Upper f k (2 * n + (f (k + 1)).toNat) := by
  have e : 63 - k = (63 - (k + 1)) + 1 := by omega
  refine ⟨?_, fun j hj => ?_⟩
  · have h1 := h.1
    rw [e, Nat.pow_succ]
    have : (f (k + 1)).toNat ≤ 1 := Bool.toNat_le _
    omega
  · rw [double_bit]
    by_cases h0 : j = 0
    · subst h0; simp
    · rw [if_neg h0, h.2 (j - 1) (by omega)]
      congr 1; omega
theorem Upper.last {f : Nat → Bool} {n : Nat} (h : Upper f 0 n) : 2 * n + (f 0).toNat < 18446744073709551616 ∧ ∀ i, i < 64 → (2 * n + (f 0).toNat).testBit i = f i := by
  refine ⟨?_, fun i hi => ?_⟩
  · have h1 := h.lt
    have : (f 0).toNat ≤ 1 := Bool.toNat_le _
    omega
  · rw [double_bit]
    by_cases h0 : i = 0
    · subst h0; simp
    · rw [if_neg h0, h.2 (i - 1) (by omega)]
      congr 1; omega

def IsLab (f : Nat → Bool) (n : Nat) : Prop := n < 18446744073709551616 ∧ ∀ i, i < 64 → n.testBit i = f i

set_option maxHeartbeats 800000 in
theorem refLabel_any (f : Nat → Bool) (w : World) :
    Calls Try.prog 48 #[.agg (marks f)] w fun e w' => ∃ n : Nat, e = .returned (.int .u64 n) ∧ IsLab f n ∧ Below w.heap.size w w' := by
  go_enter Try.func48, Try.ntmps48
  go_wp2
  go_loop [3, 4] (fun n i => (∃ k m : Nat, k ≤ 63 ∧ i = .int .i64 k ∧ n = .int .u64 m ∧ Upper f k m) ∨ (∃ m : Nat, i = .int .i64 (-1) ∧ n = .int .u64 m ∧ IsLab f m)) (fun _ i => (intOf i + 1).toNat)
  case atStart => exact .inl ⟨63, 0, by omega, rfl, rfl, Upper.start f⟩
  case round =>
    rcases hrel with ⟨k, m, hk, rfl, rfl, hu⟩ | ⟨m, rfl, rfl, hl⟩
    · have hb := Blk.new w 63 (marks f)
      have hm := hu.lt
      have hc : (w.alloc (.cells (marks f) 63)).cell? ⟨w.heap.size, k, none⟩ = some (.bool (f k)) := by rw [hb.cell, marks_get _ (by omega)]
      have HU := Lib.hid hu
      clear hu hb
      cases hfk : f k
      all_goals
        rw [hfk] at hc
        have HF := Lib.hid hfk
        clear hfk
        go_wp2
        go_round
        case rel =>
          cases k with
          | zero =>
            right
            have hl := HU.out.last
            rw [HF.out] at hl
            refine ⟨_, rfl, ?_, hl⟩
            simp
            try omega
          | succ k =>
            left
            have hd := HU.out.down (by omega)
            rw [HF.out] at hd
            refine ⟨k, _, by omega, by simp, ?_, hd⟩
            simp
            try omega
        case measure => simp [intOf]
    · go_wp2
      go_ret
      exact ⟨m, rfl, hl, (Below.refl _ _).alloc (Nat.le_refl _) _⟩

theorem isLab_or {a b n : Nat} (ha : a < 18446744073709551616) (hb : b < 18446744073709551616) (h : IsLab (fun i => a.testBit i || b.testBit i) n) : n = a ||| b :=
  bits_eq h.1 (or_lt ha hb) (fun i hi => by rw [h.2 i hi]; simp)
theorem isLab_and {a b n : Nat} (ha : a < 18446744073709551616) (h : IsLab (fun i => a.testBit i && b.testBit i) n) : n = a &&& b :=
  bits_eq h.1 (and_lt b ha) (fun i hi => by rw [h.2 i hi]; simp)

theorem marks_step {f : Nat → Bool} {k : Nat} {b : Bool} (hb : b = f k) : marks (fun i => if i = k then b else decide (i < k) && f i) = marks (fun i => decide (i < k + 1) && f i) :=
  marks_congr fun i _ => by
    by_cases h : i = k
    · subst h; simp [hb]
    · have h' : i < k + 1 ↔ i < k := by omega
      simp [h, h']
theorem marks_end (f : Nat → Bool) : marks (fun i => decide (i < 64) && f i) = marks f := marks_congr fun i hi => by simp [hi]
theorem marks_begin (f : Nat → Bool) : marks (fun _ => false) = marks (fun i => decide (i < 0) && f i) := marks_congr fun i _ => by simp

set_option maxHeartbeats 1000000 in
theorem refJoin_any (a b : Nat) (ha : a < 18446744073709551616) (hb : b < 18446744073709551616) (w : World) :
    Calls Try.prog 45 #[.int .u64 a, .int .u64 b] w fun e w' => e = .returned (.int .u64 ((a ||| b : Nat) : Int)) ∧ Below w.heap.size w w' := by
  go_enter Try.func45, Try.ntmps45
  go_wp2_with fail
  refine (marks_any a ha _).mono ?_
  rintro e w1 ⟨rfl, hb1⟩
  go_wp2_with fail
  refine (marks_any b hb _).mono ?_
  rintro e w2 ⟨rfl, hb2⟩
  go_wp2_with (first
    | ((with_reducible refine at_alloc 5 63 ?_); refine wpList_newRow rfl 63 rfl _ zero_set ?_; intro w3 g1 hg1 hl1 hx hb3)
    | ((with_reducible refine at_alloc 6 63 ?_); refine wpList_newRow rfl 63 rfl _ zero_set ?_; intro w4 g2 hg2 hl2 hy hb4; have hx2 := hx.below hb4 hl1)
    | ((with_reducible refine at_store 63 (.tmp 5) (.tmp 10) ?_); refine wpList_setRow rfl 63 (.tmp 5) (.tmp 10) rfl g1 (marks a.testBit) rfl rfl 63 _ hx2 (size_marks _) ((marks_size _).trans (marks_size _).symm) (marks_one _) ?_; intro w5 hx5 hw5; have hy5 := hy.grown hw5 (by omega); have hs5 := hw5.size)
    | ((with_reducible refine at_store 63 (.tmp 6) (.tmp 12) ?_); refine wpList_setRow rfl 63 (.tmp 6) (.tmp 12) rfl g2 (marks b.testBit) rfl rfl 63 _ hy5 (size_marks _) ((marks_size _).trans (marks_size _).symm) (marks_one _) ?_; intro w6 hy6 hw6; have hx6 := hx5.grown hw6 (by omega); have hs6 := hw6.size)
    | ((with_reducible refine at_alloc 7 63 ?_); refine wpList_newRow rfl 63 rfl _ zero_set ?_; intro w7 g3 hg3 hl3 hs hb7; have hx7 := hx6.below hb7 hx6.lt; have hy7 := hy6.below hb7 hy6.lt))
  have z1 := hb1.size
  have z2 := hb2.size
  have z3 := hb3.size
  have z4 := hb4.size
  have z7 := hb7.size
  have hB : Below w.heap.size w w7 := ((((((hb1.trans (hb2.mono z1)).trans (hb3.mono (by omega))).trans (hb4.mono (by omega))).trans (below_of_grown hw5 (by omega) (by omega))).trans (below_of_grown hw6 (by omega) (by omega)))).trans (hb7.mono (by omega))
  rw [marks_begin (fun i => a.testBit i || b.testBit i)] at hs
  clear hb1 hb2 hb3 hb4 hb7 hw5 hw6 hx hy hx2 hx5 hy5 hx6 hy6
  go_loopw [8] (fun i wr => ∃ k : Nat, k ≤ 64 ∧ i = .int .i64 k ∧ Blk wr g3 63 (marks fun i => decide (i < k) && (a.testBit i || b.testBit i)) ∧ Blk wr g1 63 (marks a.testBit) ∧ Blk wr g2 63 (marks b.testBit) ∧ Below w.heap.size w wr) (fun i _ => 64 - (intOf i).toNat)
  case atStart => exact ⟨0, by omega, rfl, hs, hx7, hy7, hB⟩
  case round =>
    obtain ⟨k, hk, rfl, hs, hx, hy, hbl⟩ := hrel
    clear hx7 hy7 hB
    by_cases hlt : k < 64
    · have hc1 : wr.cell? ⟨g1, k, none⟩ = some (.bool (a.testBit k)) := by rw [hx.cell, marks_get _ hlt]
      have hc2 : wr.cell? ⟨g2, k, none⟩ = some (.bool (b.testBit k)) := by rw [hy.cell, marks_get _ hlt]
      have hc3 : wr.cell? ⟨g3, k, none⟩ = some (.bool (decide (k < k) && (a.testBit k || b.testBit k))) := by rw [hs.cell, marks_get _ hlt]
      have hf := hs.frozen k
      have step : ∀ v, v = (a.testBit k || b.testBit k) → Blk (wr.setCell ⟨g3, k, none⟩ (.bool v)) g3 63 (marks fun i => decide (i < k + 1) && (a.testBit i || b.testBit i)) := fun v hv => by
        have h1 := hs.set_ k (.bool v)
        rw [marks_set, marks_step (f := fun i => a.testBit i || b.testBit i) hv] at h1
        exact h1
      have STEP := Lib.hid step
      clear step
      cases hp : a.testBit k <;> cases hq : b.testBit k
      all_goals
        rw [hp] at hc1
        rw [hq] at hc2
        have HP := Lib.hid hp
        have HQ := Lib.hid hq
        clear hp hq
        go_wp2
        go_roundw
        case rel => exact ⟨k + 1, by omega, by go_num, STEP.out _ (by rw [HP.out, HQ.out]; rfl), hx.far (by simp; omega) _, hy.far (by simp; omega) _, hbl.setCell (by simp; omega) _⟩
        case measure => simp [intOf]; omega
    · obtain rfl : k = 64 := by omega
      rw [marks_end (fun i => a.testBit i || b.testBit i)] at hs
      have z := hbl.size
      go_wp2_with (first
        | ((with_reducible refine at_load 63 (.tmp 7) ?_); refine wpList_load_row rfl 63 (.tmp 7) rfl g3 rfl 63 _ (0, 0) _ hs Try.underlying63 rfl (size_marks _) ?_)
        | (go_at_call 48; refine (refLabel_any _ _).mono ?_; rintro e w9 ⟨n, rfl, hn, hb9⟩))
      go_ret
      exact ⟨ret_int (by rw [isLab_or ha hb hn]), hbl.trans (hb9.mono z)⟩

end Go.Proofs.Ythdflibljngjiaa

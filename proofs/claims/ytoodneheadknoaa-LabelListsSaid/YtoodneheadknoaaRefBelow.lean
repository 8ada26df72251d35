/-
  Contracts of the document's own answers, layer 1: Below, Place, Ints, Cats.
-/
import Derived.Test.YtoodneheadknoaaRefSets
import Derived.Deep.QuietTactic
import Derived.BigQuiet
namespace Go.Proofs.Ytoodneheadknoaa
open Go.RowKit

theorem subB_iff (a b : Nat) : subB a b = true ↔ ∀ i, a.testBit i = true → b.testBit i = true := by
  unfold subB
  rw [beq_iff_eq]
  constructor
  · intro h i hi
    have h' : a &&& b = a := by omega
    have : (a &&& b).testBit i = a.testBit i := by rw [h']
    simp at this
    exact this hi
  · intro h
    have : a &&& b = a := Nat.eq_of_testBit_eq (fun i => by simp; exact h i)
    rw [this]
theorem high_bit {x i : Nat} (hx : x < 18446744073709551616) (hi : 64 ≤ i) : x.testBit i = false :=
  Nat.testBit_lt_two_pow (Nat.lt_of_lt_of_le (show x < 2 ^ 64 from hx) (Nat.pow_le_pow_right (by decide) hi))
theorem subB_no {a b k : Nat} (h1 : a.testBit k = true) (h2 : b.testBit k = false) : subB a b = false := by
  cases h : subB a b with
  | false => rfl
  | true => rw [(subB_iff a b).1 h k h1] at h2; cases h2
theorem subB_all {a b : Nat} (ha : a < 18446744073709551616) (h : ∀ i, i < 64 → a.testBit i = true → b.testBit i = true) : subB a b = true :=
  (subB_iff a b).2 fun i hi => by
    by_cases hlt : i < 64
    · exact h i hlt hi
    · rw [high_bit ha (by omega)] at hi; cases hi
theorem ret_bool {a b : Bool} (h : a = b) : Ending.returned (.bool a) = .returned (.bool b) := by rw [h]

set_option maxHeartbeats 1000000 in
theorem refBelow_any (a b : Nat) (ha : a < 18446744073709551616) (hb : b < 18446744073709551616) (w : World) :
    Calls Try.prog 16 #[.int .u64 a, .int .u64 b] w fun e w' => e = .returned (.bool (subB a b)) ∧ Below w.heap.size w w' := by
  go_enter Try.func16, Try.ntmps16
  go_wp2_with fail
  refine (marks_any a ha _).mono ?_
  rintro e w1 ⟨rfl, hb1⟩
  go_wp2_with fail
  refine (marks_any b hb _).mono ?_
  rintro e w2 ⟨rfl, hb2⟩
  go_wp2_with (first
    | ((with_reducible refine at_alloc 5 46 ?_); refine wpList_newRow rfl 46 rfl _ zero_set ?_; intro w3 g1 hg1 hl1 hx hb3)
    | ((with_reducible refine at_alloc 6 46 ?_); refine wpList_newRow rfl 46 rfl _ zero_set ?_; intro w4 g2 hg2 hl2 hy hb4; have hx2 := hx.below hb4 hl1)
    | ((with_reducible refine at_store 46 (.tmp 5) (.tmp 9) ?_); refine wpList_setRow rfl 46 (.tmp 5) (.tmp 9) rfl g1 (marks a.testBit) rfl rfl 46 _ hx2 (size_marks _) ((marks_size _).trans (marks_size _).symm) (marks_one _) ?_; intro w5 hx5 hw5; have hy5 := hy.grown hw5 (by omega); have hs5 := hw5.size)
    | ((with_reducible refine at_store 46 (.tmp 6) (.tmp 11) ?_); refine wpList_setRow rfl 46 (.tmp 6) (.tmp 11) rfl g2 (marks b.testBit) rfl rfl 46 _ hy5 (size_marks _) ((marks_size _).trans (marks_size _).symm) (marks_one _) ?_; intro w6 hy6 hw6; have hx6 := hx5.grown hw6 (by omega); have hs6 := hw6.size))
  have z1 := hb1.size
  have z2 := hb2.size
  have z3 := hb3.size
  have z4 := hb4.size
  have hB : Below w.heap.size w w6 := (((((hb1.trans (hb2.mono z1)).trans (hb3.mono (by omega))).trans (hb4.mono (by omega))).trans (below_of_grown hw5 (by omega) (by omega))).trans (below_of_grown hw6 (by omega) (by omega)))
  clear hb1 hb2 hb3 hb4 hw5 hw6 hx hy hx2 hx5 hy5
  go_loop [7] (fun i => ∃ k : Nat, k ≤ 64 ∧ i = .int .i64 k ∧ ∀ j, j < k → a.testBit j = true → b.testBit j = true) (fun i => 64 - (intOf i).toNat)
  case atStart => exact ⟨0, by omega, rfl, fun j hj => absurd hj (by omega)⟩
  case round =>
    obtain ⟨k, hk, rfl, hall⟩ := hrel
    have HA : Hid (∀ j, j < k → a.testBit j = true → b.testBit j = true) := hall
    clear hall
    by_cases hlt : k < 64
    · have hc1 : w6.cell? ⟨g1, k, none⟩ = some (.bool (a.testBit k)) := by rw [hx6.cell, marks_get _ hlt]
      have hc2 : w6.cell? ⟨g2, k, none⟩ = some (.bool (b.testBit k)) := by rw [hy6.cell, marks_get _ hlt]
      cases hp : a.testBit k <;> cases hq : b.testBit k
      all_goals
        rw [hp] at hc1
        rw [hq] at hc2
        have HP := Lib.hid hp
        have HQ := Lib.hid hq
        clear hp hq
        go_wp2
      all_goals first
        | (go_ret; exact ⟨ret_bool (subB_no HP.out HQ.out).symm, hB⟩)
        | skip
      all_goals
        go_round
        case rel =>
          refine ⟨k + 1, by omega, by go_num, fun j hj h => ?_⟩
          by_cases hjk : j = k
          · subst hjk; first | exact HQ.out | (rw [HP.out] at h; cases h)
          · exact HA.out j (by omega) h
        case measure => simp [intOf]; omega
    · obtain rfl : k = 64 := by omega
      go_wp2
      go_ret
      exact ⟨ret_bool (subB_all ha HA.out).symm, hB⟩

set_option maxHeartbeats 400000 in
theorem refPlace_any (A : Option Addr) (c B l : Nat) (zs : List Nat) (hlen : zs.length ≤ maxLen) (w : World) (h : Row w B A (zs.map u64v)) :
    Calls Try.prog 20 #[.slice A zs.length c, .int .u64 l] w fun e w' => e = .returned (.int .i64 (placeN zs l)) ∧ w = w' := by
  unfold maxLen at hlen
  go_enter Try.func20, Try.ntmps20
  go_wp2
  go_loop [5] (fun i => ∃ k : Nat, k ≤ zs.length ∧ i = .int .i64 k ∧ ∀ j, (hj : j < k) → (hz : j < zs.length) → zs[j] ≠ l) (fun i => zs.length - (intOf i).toNat)
  case atStart => exact ⟨0, Nat.zero_le _, rfl, fun j hj => absurd hj (by omega)⟩
  case round =>
    obtain ⟨k, hk, rfl, hne⟩ := hrel
    have HN : Hid (∀ j, (hj : j < k) → (hz : j < zs.length) → zs[j] ≠ l) := hne
    clear hne
    by_cases hlt : k < zs.length
    · obtain ⟨ad, rfl, hbl, hcell⟩ := h.map_at hlt
      unfold u64v at hcell
      by_cases he : zs[k] = l
      · have hb : ((zs[k] : Int) == (l : Int)) = true := by simp [he]
        go_wp2
        go_ret
        exact ⟨ret_int (placeN_at zs l k hlt (fun j hj => HN.out j hj (by omega)) he).symm, rfl⟩
      · have hb : ((zs[k] : Int) == (l : Int)) = false := by simp; omega
        go_wp2
        go_round
        case rel =>
          refine ⟨k + 1, by omega, by go_num, fun j hj hz => ?_⟩
          by_cases hjk : j = k
          · subst hjk; exact he
          · exact HN.out j (by omega) hz
        case measure => simp [intOf]; omega
    · go_wp2
      go_ret
      exact ⟨ret_int (placeN_none zs l (fun j hj => HN.out j (by omega) hj)).symm, rfl⟩

set_option maxHeartbeats 400000 in
/-- two rows of the very same numbers -/
theorem refInts_same (A B : Option Addr) (c d K1 K2 : Nat) (zs : List Nat) (hlen : zs.length ≤ maxLen) (w : World) (h1 : Row w K1 A (zs.map intv)) (h2 : Row w K2 B (zs.map intv)) :
    Calls Try.prog 23 #[.slice A zs.length c, .slice B zs.length d] w fun e w' => e = .returned (.bool true) ∧ Below w.heap.size w w' := by
  unfold maxLen at hlen
  go_enter Try.func23, Try.ntmps23
  go_wp2
  go_loopw [5] (fun i wr => ∃ k : Nat, k ≤ zs.length ∧ i = .int .i64 k ∧ Row wr K1 A (zs.map intv) ∧ Row wr K2 B (zs.map intv) ∧ Below w.heap.size w wr) (fun i _ => zs.length - (intOf i).toNat)
  case atStart => exact ⟨0, Nat.zero_le _, rfl, h1, h2, Below.refl _ _⟩
  case round =>
    obtain ⟨k, hk, rfl, h1, h2, hbl⟩ := hrel
    by_cases hlt : k < zs.length
    · obtain ⟨ad, rfl, hbl1, hcell1⟩ := h1.map_at hlt
      obtain ⟨ae, rfl, hbl2, hcell2⟩ := h2.map_at hlt
      unfold intv at hcell1 hcell2
      have hI : (k : Int) < (zs.length : Int) := by omega
      have hI0 : (0 : Int) ≤ (k : Int) := by omega
      generalize zs[k] = z at *
      go_wp2_with fail
      go_quiet (fail)
      go_wp2
      go_roundw
      case rel => exact ⟨k + 1, by omega, by go_num, h1.drewN _, h2.drewN _, below_drewN hbl _⟩
      case measure => simp [intOf]; omega
    · go_wp2
      go_ret
      exact ⟨rfl, hbl⟩

set_option maxHeartbeats 1000000 in
theorem refCats_any (l : Nat) (hl : l < 18446744073709551616) (w : World) :
    Calls Try.prog 25 #[.int .u64 l] w fun e w' => ∃ A c, e = .returned (.slice A (catsTo l 64).length c) ∧ w'.ownsRow w.heap.size 3 1 (.slice A (catsTo l 64).length c) (catsTo l 64).length ((catsTo l 64).map intv) ∧ Below w.heap.size w w' := by
  go_enter Try.func25, Try.ntmps25
  go_wp2_with fail
  refine (marks_any l hl _).mono ?_
  rintro e w1 ⟨rfl, hb1⟩
  go_wp2_with (first
    | ((with_reducible refine at_alloc 3 46 ?_); refine wpList_newRow rfl 46 rfl _ zero_set ?_; intro w3 g1 hg1 hl1 hx hb3)
    | ((with_reducible refine at_store 46 (.tmp 3) (.tmp 7) ?_); refine wpList_setRow rfl 46 (.tmp 3) (.tmp 7) rfl g1 (marks l.testBit) rfl rfl 46 _ hx (size_marks _) ((marks_size _).trans (marks_size _).symm) (marks_one _) ?_; intro w5 hx5 hw5; have hs5 := hw5.size))
  have z1 := hb1.size
  have z3 := hb3.size
  have hB : Below w.heap.size w w5 := ((hb1.trans (hb3.mono z1)).trans (below_of_grown hw5 (by omega) (by omega)))
  have hlt1 := hx5.lt
  clear hb1 hb3 hw5 hx
  go_loopw [4, 5] (fun v i wr => ∃ k : Nat, k ≤ 64 ∧ i = .int .i64 k ∧ wr.ownsRow w5.heap.size 3 1 v (catsTo l k).length ((catsTo l k).map intv) ∧ Below w5.heap.size w5 wr) (fun _ i _ => 64 - (intOf i).toNat)
  case atStart => exact ⟨0, by omega, rfl, World.ownsRow_nil _ _ _ _, Below.refl _ _⟩
  case round =>
    obtain ⟨k, hk, rfl, hown, hbl⟩ := hrel
    by_cases hlt : k < 64
    · have hc1 : wr.cell? ⟨g1, k, none⟩ = some (.bool (l.testBit k)) := by rw [(hx5.below hbl hlt1).cell, marks_get _ hlt]
      have hlen := catsTo_len l k
      have hsz := hbl.size
      have HC : Hid (catsTo l (k + 1) = catsTo l k ++ (if l.testBit k then [k] else [])) := catsTo_succ l k
      cases ht : l.testBit k
      · rw [ht] at hc1
        have HC' : Hid (catsTo l (k + 1) = catsTo l k) := by have := HC.out; rw [ht, if_neg (by decide), List.append_nil] at this; exact this
        clear HC ht
        go_wp2
        go_roundw
        case rel => exact ⟨k + 1, by omega, by go_num, by rw [HC'.out]; exact hown, hbl⟩
        case measure => simp [intOf]; omega
      · rw [ht] at hc1
        have HC' : Hid (catsTo l (k + 1) = catsTo l k ++ [k]) := by have := HC.out; rw [ht] at this; exact this
        clear HC ht
        go_wp2_with (at_builtin; refine wpList_push rfl _ _ _ rfl w5.heap.size 3 _ 8 elt_int _ _ _ _ rfl hown (.int .i64 k) rfl rfl (by unfold maxLen; omega) (by omega) hsz ?_; intro v' w6 hown' hb')
        go_roundw
        case rel =>
          refine ⟨k + 1, by omega, by go_num, ?_, hbl.trans hb'⟩
          rw [HC'.out]; simpa [intv] using hown'
        case measure => simp [intOf]; omega
    · obtain rfl : k = 64 := by omega
      obtain ⟨A, c, rfl⟩ := own_form hown
      have hs5 := hB.size
      go_wp2
      go_ret
      exact ⟨A, c, rfl, own_base hown hs5, hB.trans (hbl.mono hs5)⟩
end Go.Proofs.Ytoodneheadknoaa

/-
  Contracts of the document's own answers, layer 1: JoinAll, Of.
-/
import Derived.Test.YthdflibljngjiaaRefBelow
namespace Go.Proofs.Ythdflibljngjiaa
open Go.RowKit

theorem joinAllN_bit (zs : List Nat) (z i : Nat) : (joinAllN (zs ++ [z])).testBit i = ((joinAllN zs).testBit i || z.testBit i) := by rw [joinAllN_snoc]; simp

theorem row_far {w : World} {B : Nat} {A : Option Addr} {xs : List Value} (h : Row w B A xs) {p : Addr} (hB : B ≤ p.block) (u : Value) : Row (w.setCell p u) B A xs :=
  h.below ((Below.refl _ _).setCell hB u)

theorem marks_mix {f g : Nat → Bool} {k : Nat} {b : Bool} (hb : b = g k) : marks (fun i => if i = k then b else if i < k then g i else f i) = marks (fun i => if i < k + 1 then g i else f i) :=
  marks_congr fun i _ => by
    by_cases h : i = k
    · subst h; simp [hb]
    · have h' : i < k + 1 ↔ i < k := by omega
      simp [h, h']
theorem marks_mix0 (f g : Nat → Bool) : marks f = marks (fun i => if i < 0 then g i else f i) := marks_congr fun i _ => by simp
theorem marks_mix64 (f g : Nat → Bool) : marks (fun i => if i < 64 then g i else f i) = marks g := marks_congr fun i hi => by simp [hi]

set_option maxHeartbeats 2000000 in
theorem refJoinAll_any (A : Option Addr) (c : Nat) (zs : List Nat) (hz : ∀ z ∈ zs, z < 18446744073709551616) (hlen : zs.length ≤ maxLen) (w : World) (h : Row w w.heap.size A (zs.map u64v)) :
    Calls Try.prog 36 #[.slice A zs.length c] w fun e w' => e = .returned (.int .u64 ((joinAllN zs : Nat) : Int)) ∧ Below w.heap.size w w' := by
  unfold maxLen at hlen
  go_enter Try.func36, Try.ntmps36
  go_wp2_with ((with_reducible refine at_alloc 3 63 ?_); refine wpList_newRow rfl 63 rfl _ zero_set ?_; intro w1 g hg hl hs hb1)
  rw [show marks (fun _ => false) = marks (joinAllN (zs.take 0)).testBit from marks_congr fun i _ => by simp [joinAllN]] at hs
  go_loopw [4] (fun i wr => ∃ k : Nat, k ≤ zs.length ∧ i = .int .i64 k ∧ Blk wr g 63 (marks (joinAllN (zs.take k)).testBit) ∧ Below w.heap.size w wr) (fun i _ => zs.length - (intOf i).toNat)
  case atStart => exact ⟨0, Nat.zero_le _, rfl, hs, hb1⟩
  case round =>
    clear hs hb1 hl
    obtain ⟨k, hk, rfl, hs, hb⟩ := hrel
    have z := hb.size
    by_cases hlt : k < zs.length
    · obtain ⟨ad, rfl, hbl, hcell⟩ := (h.below hb).map_at hlt
      have hzk := hz _ (List.getElem_mem hlt)
      unfold u64v at hcell
      have hj : ∀ i, (joinAllN (zs.take (k + 1))).testBit i = ((joinAllN (zs.take k)).testBit i || zs[k].testBit i) := fun i => by rw [take_snoc zs k hlt, joinAllN_bit]
      have HJ := Lib.hid hj
      clear hj
      generalize zs[k] = z0 at *
      go_wp2_with (first
        | (go_at_call 47; refine (marks_any z0 hzk _).mono ?_; rintro e w2 ⟨rfl, hb2⟩)
        | ((with_reducible refine at_alloc 5 63 ?_); refine wpList_newRow rfl 63 rfl _ zero_set ?_; intro w3 g1 hg1 hl1 hx hb3)
        | ((with_reducible refine at_store 63 (.tmp 5) (.tmp 17) ?_); refine wpList_setRow rfl 63 (.tmp 5) (.tmp 17) rfl g1 (marks z0.testBit) rfl rfl 63 _ hx (size_marks _) ((marks_size _).trans (marks_size _).symm) (marks_one _) ?_; intro w5 hx5 hw5))
      have hsl := hs.lt
      have z2 := hb2.size
      have z3 := hb3.size
      have hs3 := (hs.below hb2 hsl).below hb3 (by omega)
      have hs5 := hs3.grown hw5 (by omega)
      have hB : Below w.heap.size w w5 := ((hb.trans (hb2.mono z)).trans (hb3.mono (by omega))).trans (below_of_grown hw5 (by omega) (by omega))
      have hne : g1 ≠ g := by omega
      have hg1' : w.heap.size ≤ g1 := by omega
      clear hs hs3 hx hb2 hb3 hw5 hb
      rw [marks_mix0 _ (joinAllN (zs.take (k + 1))).testBit] at hs5
      go_loopw [6] (fun i wr => ∃ j : Nat, j ≤ 64 ∧ i = .int .i64 j ∧ Blk wr g 63 (marks fun i => if i < j then (joinAllN (zs.take (k + 1))).testBit i else (joinAllN (zs.take k)).testBit i) ∧ Blk wr g1 63 (marks z0.testBit) ∧ Below w.heap.size w wr) (fun i _ => 64 - (intOf i).toNat)
      case atStart => exact ⟨0, by omega, rfl, hs5, hx5, hB⟩
      case round =>
        clear hs5 hx5 hB hcell hbl hsl
        obtain ⟨j, hj64, rfl, hs, hx, hb⟩ := hrel
        by_cases hlt2 : j < 64
        · have hc1 : wr.cell? ⟨g, j, none⟩ = some (.bool ((joinAllN (zs.take k)).testBit j)) := by rw [hs.cell, marks_get _ hlt2]; simp
          have hc2 : wr.cell? ⟨g1, j, none⟩ = some (.bool (z0.testBit j)) := by rw [hx.cell, marks_get _ hlt2]
          have hf := hs.frozen j
          have STEP : Hid (∀ v, v = (joinAllN (zs.take (k + 1))).testBit j → Blk (wr.setCell ⟨g, j, none⟩ (.bool v)) g 63 (marks fun i => if i < j + 1 then (joinAllN (zs.take (k + 1))).testBit i else (joinAllN (zs.take k)).testBit i)) := fun v hv => by
            have h1 := hs.set_ j (.bool v)
            rw [marks_set, marks_mix hv] at h1
            exact h1
          have HJ2 := Lib.hid (HJ.out j)
          cases hp : (joinAllN (zs.take k)).testBit j <;> cases hq : z0.testBit j
          all_goals
            rw [hp] at hc1
            rw [hq] at hc2
            have HP := Lib.hid hp
            have HQ := Lib.hid hq
            clear hp hq
            go_wp2
            go_roundw
            case rel => exact ⟨j + 1, by omega, by go_num, STEP.out _ (by rw [HJ2.out, HP.out, HQ.out]; rfl), hx.far (by simpa using hne) _, hb.setCell (by simpa using hg) _⟩
            case measure => simp [intOf]; omega
        · obtain rfl : j = 64 := by omega
          rw [marks_mix64 _ (joinAllN (zs.take (k + 1))).testBit] at hs
          go_wp2
          go_roundw
          case rel => exact ⟨k + 1, by omega, by go_num, hs, hb⟩
          case measure => simp [intOf]; omega
    · have hs' : Blk wr g 63 (marks (joinAllN zs).testBit) := by
        rw [List.take_of_length_le (by omega)] at hs; exact hs
      have hjl := joinAllN_lt zs hz
      generalize hn0 : joinAllN zs = n0 at *
      have HN := Lib.hid hn0
      clear hn0
      go_wp2_with (first
        | ((with_reducible refine at_load 63 (.tmp 3) ?_); refine wpList_load_row rfl 63 (.tmp 3) rfl g rfl 63 _ (0, 0) _ hs' Try.underlying63 rfl (size_marks _) ?_)
        | (go_at_call 48; refine (refLabel_any _ _).mono ?_; rintro e w9 ⟨n, rfl, hn, hb9⟩))
      go_ret
      exact ⟨ret_int (by rw [bits_eq hn.1 hjl hn.2, HN.out]), hb.trans (hb9.mono z)⟩

end Go.Proofs.Ythdflibljngjiaa

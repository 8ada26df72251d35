/-
  Contracts for package label: appendNumber, Print.
-/
import Derived.Test.YtoodneheadknoaaLabBase
namespace Go.Proofs.Ytoodneheadknoaa
open Go.RowKit

theorem elt_byte : Elt Try.prog 52 5 (.int .u8 0) 1 1 := ⟨Try.underlying52, by kernel_rfl, rfl, by decide⟩

def digs (c : Nat) : List UInt8 := if 10 ≤ c then [UInt8.ofNat (48 + c / 10), UInt8.ofNat (48 + c % 10)] else [UInt8.ofNat (48 + c % 10)]

theorem byt_of (n : Nat) {i : Int} (hi : i = n) (h : n < 256) : .int .u8 i = byt (UInt8.ofNat n) := by
  unfold byt
  rw [UInt8.toNat_ofNat', Nat.mod_eq_of_lt h, hi]

theorem own_snoc {w : World} {base e n : Nat} {v : Value} {xs : List UInt8} {u : Value} {b : UInt8} (h : w.ownsRow base e 1 v n (xs.map byt ++ [u])) (hn : n = xs.length + 1) (hu : u = byt b) : w.ownsRow base e 1 v (xs ++ [b]).length ((xs ++ [b]).map byt) := by
  subst hu hn
  simpa using h

set_option maxHeartbeats 400000 in
theorem appendNumber_any (base c : Nat) (v : Value) (xs : List UInt8) (hc : c < 64) (w : World) (hown : w.ownsRow base 5 1 v xs.length (xs.map byt)) (hbase : base ≤ w.heap.size) (hx : xs.length ≤ 100000) :
    Calls Try.prog 34 #[v, .int .i64 c] w fun e w' => ∃ A c', e = .returned (.slice A (xs ++ digs c).length c') ∧ w'.ownsRow base 5 1 (.slice A (xs ++ digs c).length c') (xs ++ digs c).length ((xs ++ digs c).map byt) ∧ Below base w w' := by
  by_cases h10 : 10 ≤ c
  · have HD : Hid (digs c = [UInt8.ofNat (48 + c / 10), UInt8.ofNat (48 + c % 10)]) := if_pos h10
    go_enter Try.func34, Try.ntmps34
    go_wp2_with (first
      | (at_builtin; refine wpList_push rfl (.tmp 7) _ _ rfl base 5 _ 1 elt_byte _ _ _ _ rfl hown (.int .u8 (48 + (c : Int) / 10)) rfl rfl (by unfold maxLen; omega) (by omega) hbase ?_; intro v1 w1 hown1 hb1; have hown2 := own_snoc (b := UInt8.ofNat (48 + c / 10)) hown1 rfl (byt_of (48 + c / 10) (by omega) (by omega)); have hb2 := hb1.size)
      | (at_builtin; refine wpList_push rfl (.tmp 14) _ _ rfl base 5 _ 1 elt_byte _ _ _ _ rfl hown2 (.int .u8 (48 + (c : Int) % 10)) rfl rfl (by simp; unfold maxLen; omega) (by simp; omega) (by omega) ?_; intro v3 w3 hown3 hb3))
    have hown4 := own_snoc (b := UInt8.ofNat (48 + c % 10)) hown3 rfl (byt_of _ (by omega) (by omega))
    go_ret
    have e : xs ++ [UInt8.ofNat (48 + c / 10)] ++ [UInt8.ofNat (48 + c % 10)] = xs ++ digs c := by rw [HD.out]; simp
    rw [e] at hown4
    obtain ⟨A, c', rfl⟩ := own_form hown4
    exact ⟨A, c', rfl, hown4, hb1.trans hb3⟩
  · have HD : Hid (digs c = [UInt8.ofNat (48 + c % 10)]) := if_neg h10
    go_enter Try.func34, Try.ntmps34
    go_wp2_with (at_builtin; refine wpList_push rfl (.tmp 14) _ _ rfl base 5 _ 1 elt_byte _ _ _ _ rfl hown (.int .u8 (48 + (c : Int) % 10)) rfl rfl (by unfold maxLen; omega) (by omega) hbase ?_; intro v1 w1 hown1 hb1)
    have hown2 := own_snoc (b := UInt8.ofNat (48 + c % 10)) hown1 rfl (byt_of _ (by omega) (by omega))
    go_ret
    rw [← HD.out] at hown2
    obtain ⟨A, c', rfl⟩ := own_form hown2
    exact ⟨A, c', rfl, hown2, hb1⟩

/-- categories one behind the other, dots between them -/
def dotStep (t : List UInt8) (c : Nat) : List UInt8 := (if 0 < t.length then t ++ [46] else t) ++ digs c
def dots (cs : List Nat) : List UInt8 := cs.foldl dotStep []
theorem dots_snoc (cs : List Nat) (c : Nat) : dots (cs ++ [c]) = dotStep (dots cs) c := by unfold dots; rw [List.foldl_append]; rfl
theorem digs_len (c : Nat) : 1 ≤ (digs c).length ∧ (digs c).length ≤ 2 := by unfold digs; split <;> simp
theorem dots_len (cs : List Nat) (k : Nat) : (dots (cs.take k)).length ≤ 3 * k := by
  induction k with
  | zero => simp [dots]
  | succ k ih =>
    by_cases hk : k < cs.length
    · rw [take_snoc cs k hk, dots_snoc]
      unfold dotStep
      have := digs_len cs[k]
      split <;> simp <;> omega
    · rw [List.take_of_length_le (by omega)] at ih ⊢
      omega
def printN (l : Nat) : List UInt8 := if l = 0 then [45] else dots (catsTo l 64)

theorem zero_beq {l : Nat} (h : l = 0) : ((l : Int) == 0) = true := by simp [h]
theorem zero_bne {l : Nat} (h : ¬ l = 0) : ((l : Int) == 0) = false := by simp; omega

set_option maxHeartbeats 400000 in
theorem print_any (l : Nat) (hl : l < 18446744073709551616) (w : World) :
    Calls Try.prog 28 #[.int .u64 l] w fun e w' => e = .returned (.string ⟨(printN l).toArray⟩) ∧ Below w.heap.size w w' := by
  by_cases h0 : l = 0
  · have hz := zero_beq h0
    have HP : Hid (printN l = [45]) := if_pos h0
    clear h0
    go_enter Try.func28, Try.ntmps28
    go_wp2
    go_ret
    exact ⟨by rw [HP.out]; rfl, Below.refl _ _⟩
  · have hz := zero_bne h0
    have HP : Hid (printN l = dots (catsTo l 64)) := if_neg h0
    clear h0
    go_enter Try.func28, Try.ntmps28
    go_wp2_with (go_at_call 24; refine (cats_any l hl _).mono ?_; rintro e w1 ⟨A, c, rfl, hown, hbl⟩)
    have hcl := catsTo_len l 64
    have hclt := catsTo_lt l 64
    generalize hcs : catsTo l 64 = cs at *
    clear hcs
    have hrow := Row.of_own hown
    go_loopw [3, 11] (fun v i wr => ∃ k : Nat, k ≤ cs.length ∧ i = .int .i64 k ∧ wr.ownsRow w1.heap.size 5 1 v (dots (cs.take k)).length ((dots (cs.take k)).map byt) ∧ Below w1.heap.size w1 wr) (fun _ i _ => cs.length - (intOf i).toNat)
    case atStart => exact ⟨0, by omega, rfl, World.ownsRow_nil _ _ _ _, Below.refl _ _⟩
    case round =>
      obtain ⟨k, hk, rfl, hown1, hb1⟩ := hrel
      have hs1 := hb1.size
      by_cases hlt : k < cs.length
      · obtain ⟨ad, rfl, hb0, hcell⟩ := (hrow.below hb1).map_at hlt
        have hc64 := hclt cs[k] (List.getElem_mem hlt)
        unfold intv at hcell
        have HL : Hid (dots (cs.take (k + 1)) = dotStep (dots (cs.take k)) cs[k]) := by
          show dots (cs.take (k + 1)) = _
          rw [take_snoc cs k hlt, dots_snoc]
        have hdl := dots_len cs k
        generalize dots (cs.take k) = t at *
        obtain ⟨A1, c1, rfl⟩ := own_form hown1
        clear hown hrow hclt
        by_cases ht : 0 < t.length
        · have HL' : Hid (dots (cs.take (k + 1)) = t ++ [46] ++ digs cs[k]) := by
            show dots (cs.take (k + 1)) = _
            rw [HL.out]; unfold dotStep; rw [if_pos ht]
          clear HL
          go_wp2_with (first
            | (at_builtin; refine wpList_push rfl (.tmp 18) _ _ rfl w1.heap.size 5 _ 1 elt_byte _ _ _ _ rfl hown1 (.int .u8 46) rfl rfl (by unfold maxLen; omega) (by omega) hs1 ?_; intro v2 w2 hown2 hb2; have hown3 := own_snoc (b := 46) hown2 rfl rfl; have hs2 := hb2.size)
            | (go_at_call 34; refine (appendNumber_any w1.heap.size cs[k] v2 (t ++ [46]) hc64 _ hown3 (by omega) (by simp; omega)).mono ?_; rintro e w4 ⟨A4, c4, rfl, hown4, hb4⟩))
          go_roundw
          case rel => exact ⟨k + 1, by omega, by go_num, by rw [HL'.out]; simpa using hown4, hb1.trans (hb2.trans hb4)⟩
          case measure => simp [intOf]; omega
        · have HL' : Hid (dots (cs.take (k + 1)) = t ++ digs cs[k]) := by
            show dots (cs.take (k + 1)) = _
            rw [HL.out]; unfold dotStep; rw [if_neg ht]
          clear HL
          go_wp2_with (go_at_call 34; refine (appendNumber_any w1.heap.size cs[k] _ t hc64 _ hown1 (by omega) (by omega)).mono ?_; rintro e w4 ⟨A4, c4, rfl, hown4, hb4⟩)
          go_roundw
          case rel => exact ⟨k + 1, by omega, by go_num, by rw [HL'.out]; simpa using hown4, hb1.trans hb4⟩
          case measure => simp [intOf]; omega
      · obtain rfl : k = cs.length := by omega
        rw [List.take_length] at hown1
        obtain ⟨A1, c1, rfl⟩ := own_form hown1
        have hcv := str_of_row (P := Try.prog) (c := c1) 52 9 5 Try.underlying52 Try.underlying5 Try.underlying9 (Row.of_own hown1)
        clear hown hrow hclt hlt
        go_wp2
        go_ret
        exact ⟨by rw [HP.out]; rfl, hbl.trans (hb1.mono hbl.size)⟩

end Go.Proofs.Ytoodneheadknoaa

/-
  Contracts of the document's own answers, layer 3: At, All.
-/
import Derived.Test.YthdflibljngjiaaRunCut
import Derived.Test.YthdflibljngjiaaRefLists
namespace Go.Proofs.Ythdflibljngjiaa
open Go.RowKit

def atOf (l : List RunP) (p : Int) : Nat × Bool := if goodB l = true ∧ 0 ≤ p ∧ p < (totalOf l : Int) then ((bytesOf l).getD p.toNat 0, true) else (0, false)
theorem atOf_pos {l : List RunP} {p : Int} (h : goodB l = true) (h0 : 0 ≤ p) (h1 : p < (totalOf l : Int)) : atOf l p = ((bytesOf l).getD p.toNat 0, true) := if_pos ⟨h, h0, h1⟩
theorem atOf_neg {l : List RunP} {p : Int} (h : ¬ (goodB l = true ∧ 0 ≤ p ∧ p < (totalOf l : Int))) : atOf l p = (0, false) := if_neg h

set_option maxHeartbeats 1000000 in
theorem refAt_any (A : Option Addr) (c B : Nat) (l : List RunP) (p : Int) (hf : Fits l) (hlen : l.length ≤ maxLen) (w : World) (hB : B ≤ w.heap.size) (h : Row w B A (flatR l)) :
    Calls Try.prog 20 #[.slice A l.length c, .int .i64 p] w fun e w' => e = .returned (.tuple #[.int .u64 ((atOf l p).1 : Nat), .bool (atOf l p).2]) ∧ Below w.heap.size w w' := by
  have HF := Lib.hid hf
  clear hf
  by_cases hg : goodB l = true
  · have hT := totalOf_good hg
    have hsum := ((goodB_iff l).1 hg).1
    have hbl := bytesOf_len l
    have hle := totalOf_le l
    by_cases h0 : p < 0
    · have HR := Lib.hid (atOf_neg (l := l) (p := p) (by omega))
      clear hT hbl
      go_enter Try.func20, Try.ntmps20
      go_wp2_with (go_at_call 16; refine (refGood_any A c B l HF.out hlen _ hB h).mono ?_; rintro e w1 ⟨rfl, hb1⟩; rw [hg]; have z1 := hb1.size)
      go_ret2
      exact ⟨by rw [HR.out]; rfl, hb1⟩
    · by_cases h1 : p < (totalOf l : Int)
      · have HR := Lib.hid (atOf_pos hg (by omega) h1)
        have hpl : p.toNat < (bytesOf l).length := by omega
        have HB := Lib.hid (bytesOf_mem HF.out)
        have HD : Hid ((bytesOf l).getD p.toNat 0 = (bytesOf l)[p.toNat]) := by show List.getD _ _ _ = _; simp [List.getD, hpl]
        clear hT hbl
        go_enter Try.func20, Try.ntmps20
        go_wp2_with (first
          | (go_at_call 16; refine (refGood_any A c B l HF.out hlen _ hB h).mono ?_; rintro e w1 ⟨rfl, hb1⟩; rw [hg]; have z1 := hb1.size)
          | (go_at_call 18; refine (refTotal_any A c B l HF.out hlen _ (by omega) (h.below (hb1.mono hB))).mono ?_; rintro e w2 ⟨rfl, hb2⟩; have z2 := hb2.size)
          | (go_at_call 34; refine (refBytes_any A c B l HF.out hlen hsum _ (by omega) ((h.below (hb1.mono hB)).below (hb2.mono (by omega)))).mono ?_; rintro e w3 ⟨A3, c3, rfl, hown3, hb3⟩; have z3 := hb3.size; obtain ⟨ad3, rfl, _, hc3⟩ := (Row.of_own hown3).map_at hpl; unfold u64v at hc3))
        go_ret2
        exact ⟨by rw [HR.out, HD.out]; rfl, (hb1.trans (hb2.mono z1)).trans (hb3.mono (by omega))⟩
      · have HR := Lib.hid (atOf_neg (l := l) (p := p) (by omega))
        clear hT hbl
        go_enter Try.func20, Try.ntmps20
        go_wp2_with (first
          | (go_at_call 16; refine (refGood_any A c B l HF.out hlen _ hB h).mono ?_; rintro e w1 ⟨rfl, hb1⟩; rw [hg]; have z1 := hb1.size)
          | (go_at_call 18; refine (refTotal_any A c B l HF.out hlen _ (by omega) (h.below (hb1.mono hB))).mono ?_; rintro e w2 ⟨rfl, hb2⟩; have z2 := hb2.size))
        go_ret2
        exact ⟨by rw [HR.out]; rfl, hb1.trans (hb2.mono z1)⟩
  · have HR := Lib.hid (atOf_neg (l := l) (p := p) (fun h => hg h.1))
    have hg' : goodB l = false := by simpa using hg
    go_enter Try.func20, Try.ntmps20
    go_wp2_with (go_at_call 16; refine (refGood_any A c B l HF.out hlen _ hB h).mono ?_; rintro e w1 ⟨rfl, hb1⟩; rw [hg']; have z1 := hb1.size)
    go_ret2
    exact ⟨by rw [HR.out]; rfl, hb1⟩

/-- the labels of the runs that have a byte -/
def someOf (l : List RunP) : List Nat := (l.filter fun r => decide (0 < r.2)).map (·.1)
theorem someOf_succ (l : List RunP) (k : Nat) (h : k < l.length) : someOf (l.take (k + 1)) = if 0 < l[k].2 then someOf (l.take k) ++ [l[k].1] else someOf (l.take k) := by
  rw [List.take_succ_eq_append_getElem h]
  unfold someOf
  rw [List.filter_append, List.map_append]
  by_cases hp : 0 < l[k].2
  · rw [if_pos hp]; simp [hp]
  · rw [if_neg hp]; simp [hp]
theorem someOf_len (l : List RunP) : (someOf l).length ≤ l.length := by unfold someOf; rw [List.length_map]; exact List.length_filter_le _ _
theorem someOf_mem {l : List RunP} (hf : Fits l) : ∀ x ∈ someOf l, x < 18446744073709551616 := by
  intro x hx
  unfold someOf at hx
  obtain ⟨r, hr, rfl⟩ := List.mem_map.1 hx
  exact (hf r (List.mem_filter.1 hr).1).1

set_option maxHeartbeats 1000000 in
theorem refAll_any (A : Option Addr) (c B : Nat) (l : List RunP) (hf : Fits l) (hlen : l.length ≤ 1000000) (w : World) (hB : B ≤ w.heap.size) (h : Row w B A (flatR l)) :
    Calls Try.prog 22 #[.slice A l.length c] w fun e w' => e = .returned (.int .u64 ((joinAllN (someOf l) : Nat) : Int)) ∧ Below w.heap.size w w' := by
  have HF := Lib.hid hf
  clear hf
  go_enter Try.func22, Try.ntmps22
  go_wp2
  go_loopw [3, 4] (fun v i wr => ∃ k : Nat, k ≤ l.length ∧ i = .int .i64 k ∧ wr.ownsRow w.heap.size 33 1 v (someOf (l.take k)).length ((someOf (l.take k)).map u64v) ∧ Below w.heap.size w wr) (fun _ i _ => l.length - (intOf i).toNat)
  case atStart => exact ⟨0, Nat.zero_le _, rfl, World.ownsRow_nil _ _ _ _, Below.refl _ _⟩
  case round =>
    obtain ⟨k, hk, rfl, hown, hb⟩ := hrel
    have z := hb.size
    have hle := someOf_len (l.take k)
    rw [List.length_take] at hle
    obtain ⟨A1, c1, rfl⟩ := own_form hown
    by_cases hlt : k < l.length
    · obtain ⟨ad, rfl, hbl, c0, c1⟩ := run_cells (h.below (hb.mono hB)) hlt
      have HS := Lib.hid (someOf_succ l k hlt)
      generalize l[k] = r at *
      obtain ⟨x, n⟩ := r
      dsimp only at *
      by_cases hn : 0 < n
      · have hn' : n > 0 := hn
        rw [if_pos hn] at HS
        go_wp2_with (at_builtin; refine wpList_push rfl _ _ _ rfl w.heap.size 33 _ 8 elt_label _ _ _ _ rfl hown (.int .u64 (x : Nat)) rfl rfl (by unfold maxLen; omega) (by omega) z ?_; intro v3 w3 hown3 hb3)
        go_roundw
        case rel => exact ⟨k + 1, by omega, by go_num, by rw [HS.out, List.length_append, List.map_append]; exact hown3, hb.trans hb3⟩
        case measure => simp [intOf]; omega
      · rw [if_neg hn] at HS
        go_wp2
        go_roundw
        case rel => exact ⟨k + 1, by omega, by go_num, by rw [HS.out]; exact hown, hb⟩
        case measure => simp [intOf]; omega
    · obtain rfl : k = l.length := by omega
      rw [List.take_length] at hown hle
      have HM := Lib.hid (someOf_mem HF.out)
      rw [List.take_length]
      go_wp2_with (go_at_call 36; refine (refJoinAll_any A1 c1 (someOf l) HM.out (by unfold maxLen; omega) _ (Row.of_own hown)).mono ?_; rintro e w2 ⟨rfl, hb2⟩)
      go_ret
      exact ⟨rfl, hb.trans (hb2.mono z)⟩
end Go.Proofs.Ythdflibljngjiaa

/-
  The landed store: usable, Len, Room, within, New: layer 5.
-/
import Derived.Test.YtacpfkkbjibmgaaPieRow
import Derived.Deep.RegionHeld3
namespace Go.Proofs.Ytacpfkkbjibmgaa
open Go.RowKit

theorem pieUsable_yes (g : Nat) (w : World) (h : w.cell? ⟨g, 0, none⟩ = some (.bool true)) :
    Calls Try.prog 21 #[.pointer (some ⟨g, 0, none⟩)] w fun e w' => e = .returned (.bool true) ∧ w = w' := by
  go_enter Try.func21, Try.ntmps21
  go_wp2
  go_ret
  exact ⟨rfl, rfl⟩
theorem pieUsable_zero (g : Nat) (w : World) (h : w.cell? ⟨g, 0, none⟩ = some (.bool false)) :
    Calls Try.prog 21 #[.pointer (some ⟨g, 0, none⟩)] w fun e w' => e = .returned (.bool false) ∧ w = w' := by
  go_enter Try.func21, Try.ntmps21
  go_wp2
  go_ret
  exact ⟨rfl, rfl⟩
theorem pieUsable_nil (w : World) :
    Calls Try.prog 21 #[.pointer none] w fun e w' => e = .returned (.bool false) ∧ w = w' := by
  go_enter Try.func21, Try.ntmps21
  go_wp2
  go_ret
  exact ⟨rfl, rfl⟩

/-- the four cells of a store -/
theorem sto_cells {w : World} {g : Nat} {T : TypeId} {a b c d : Value} (h : Blk w g T #[a, b, c, d]) : w.cell? ⟨g, 0, none⟩ = some a ∧ w.cell? ⟨g, 1, none⟩ = some b ∧ w.cell? ⟨g, 2, none⟩ = some c ∧ w.cell? ⟨g, 3, none⟩ = some d :=
  ⟨by have := h.cell 0; simpa using this, by have := h.cell 1; simpa using this, by have := h.cell 2; simpa using this, by have := h.cell 3; simpa using this⟩

set_option maxHeartbeats 1000000 in
theorem pieLen_any (g B : Nat) (A : Option Addr) (c : Nat) (m vb : Value) (ps : List PieP) (w : World) (hg : Blk w g 54 #[.bool true, m, vb, .slice A ps.length c]) (hB : B ≤ w.heap.size) (h : Row w B A (flatP ps)) (hlen : ps.length ≤ 100000) (hmax : lenP ps ≤ 4096) :
    Calls Try.prog 17 #[.pointer (some ⟨g, 0, none⟩)] w fun e w' => e = .returned (.int .i64 (lenP ps : Nat)) ∧ Below w.heap.size w w' := by
  obtain ⟨x0, _, _, x3⟩ := sto_cells hg
  go_enter Try.func17, Try.ntmps17
  go_wp2_with (go_at_call 21; refine (pieUsable_yes g _ x0).mono ?_; rintro e w1 ⟨rfl, rfl⟩)
  go_loopw [3, 14] (fun n i wr => ∃ k : Nat, k ≤ ps.length ∧ i = .int .i64 k ∧ n = .int .i64 (lenP (ps.take k) : Nat) ∧ Below w.heap.size w wr) (fun _ i _ => ps.length - (intOf i).toNat)
  case atStart => exact ⟨0, Nat.zero_le _, rfl, rfl, Below.refl _ _⟩
  case round =>
    obtain ⟨k, hk, rfl, rfl, hb⟩ := hrel
    have z := hb.size
    have hm1 := lenP_take_bound hmax k
    by_cases hlt : k < ps.length
    · obtain ⟨ad, rfl, hbl, c0, c1, c2⟩ := pie_cells (h.below (hb.mono hB)) hlt
      have hs1 := lenP_succ (ps := ps) k hlt
      have hm2 := lenP_take_bound hmax (k + 1)
      generalize ps[k] = r at *
      obtain ⟨x, n, l⟩ := r
      dsimp only at *
      have HS := Lib.hid hs1
      have hn : n ≤ 4096 := by omega
      clear hs1 x0 x3
      go_wp2
      go_roundw
      case rel => exact ⟨k + 1, by omega, by go_num, by rw [HS.out]; congr 1, hb.alloc z _⟩
      case measure => simp [intOf]; omega
    · obtain rfl : k = ps.length := by omega
      go_wp2
      go_ret
      exact ⟨by rw [List.take_length]; rfl, hb⟩

set_option maxHeartbeats 1000000 in
theorem pieRoom_any (g B : Nat) (A : Option Addr) (c most : Nat) (vb : Value) (ps : List PieP) (w : World) (hg : Blk w g 54 #[.bool true, .int .i64 (most : Nat), vb, .slice A ps.length c]) (hB : B ≤ w.heap.size) (h : Row w B A (flatP ps)) (hlen : ps.length ≤ 100000) (hmax : lenP ps ≤ most) (hmost : most ≤ 4096) :
    Calls Try.prog 18 #[.pointer (some ⟨g, 0, none⟩)] w fun e w' => e = .returned (.int .i64 ((most - lenP ps : Nat) : Int)) ∧ Below w.heap.size w w' := by
  obtain ⟨x0, x1, _, x3⟩ := sto_cells hg
  have G0 := Lib.hid hg
  have hG := hg.lt
  go_enter Try.func18, Try.ntmps18
  go_wp2_with (go_at_call 21; refine (pieUsable_yes g _ x0).mono ?_; rintro e w1 ⟨rfl, rfl⟩)
  have X1 := Lib.hid x1
  clear x0 x1 x3
  have hw := wrap_small ((most - lenP ps : Nat) : Int) (by omega) (by omega)
  have hz : (most : Int) - (lenP ps : Int) = ((most - lenP ps : Nat) : Int) := by omega
  go_region_held3 (fun w' => w'.cell? ⟨g, 1, none⟩ = some (.int .i64 (most : Nat)))
    (first
      | exact X1.out
      | exact K1.out)
    (first
      | (go_at_call 17; refine (pieLen_any g B A c (.int .i64 (most : Nat)) vb ps _ (G0.out.drewN 1) hB (h.drewN 1) hlen (by omega)).mono ?_; rintro e w1 ⟨rfl, hb1⟩; have K1 : Hid (w1.cell? ⟨g, 1, none⟩ = some (.int .i64 (most : Nat))) := (sto_cells (G0.out.below (B := w.heap.size) (w' := w1) (Below.trans (below_drewN (Below.refl _ w) 1) hb1) hG)).2.1; have hb2 := Below.trans (below_drewN (Below.refl w.heap.size w) 1) hb1; clear hb1))
  go_wp2
  go_ret
  exact ⟨rfl, hb2⟩

set_option maxHeartbeats 1000000 in
theorem pieWithin_any (g B : Nat) (A : Option Addr) (c : Nat) (m vb : Value) (ps : List PieP) (f t : Int) (w : World) (hg : Blk w g 54 #[.bool true, m, vb, .slice A ps.length c]) (hB : B ≤ w.heap.size) (h : Row w B A (flatP ps)) (hlen : ps.length ≤ 100000) (hmax : lenP ps ≤ 4096) :
    Calls Try.prog 22 #[.pointer (some ⟨g, 0, none⟩), .int .i64 f, .int .i64 t] w fun e w' => e = .returned (.bool (decide (0 ≤ f ∧ f ≤ t ∧ t ≤ (lenP ps : Int)))) ∧ Below w.heap.size w w' := by
  by_cases h0 : 0 ≤ f
  · by_cases h1 : f ≤ t
    · have HD : Hid (decide (0 ≤ f ∧ f ≤ t ∧ t ≤ (lenP ps : Int)) = decide (t ≤ (lenP ps : Int))) := decide_eq_decide.2 ⟨fun h => h.2.2, fun h => ⟨h0, h1, h⟩⟩
      go_enter Try.func22, Try.ntmps22
      go_wp2_with (go_at_call 17; refine (pieLen_any g B A c m vb ps _ hg hB h hlen (by omega)).mono ?_; rintro e w1 ⟨rfl, hb1⟩)
      go_ret
      exact ⟨by rw [HD.out]; rfl, hb1⟩
    · have hd : decide (f ≤ t) = false := decide_eq_false h1
      go_enter Try.func22, Try.ntmps22
      go_wp2
      go_ret
      exact ⟨rfl, Below.refl _ _⟩
  · have hd : decide (0 ≤ f) = false := decide_eq_false h0
    go_enter Try.func22, Try.ntmps22
    go_wp2
    go_ret
    exact ⟨rfl, Below.refl _ _⟩

set_option maxHeartbeats 400000 in
theorem pieNew_no (n : Int) (hn : ¬ (0 ≤ n ∧ n ≤ 4096)) (w : World) :
    Calls Try.prog 9 #[.int .i64 n] w fun e w' => e = .returned (.pointer none) ∧ w = w' := by
  by_cases h0 : n < 0
  · go_enter Try.func9, Try.ntmps9
    go_wp2
    go_ret
    exact ⟨rfl, rfl⟩
  · have h1 : n > 4096 := by omega
    go_enter Try.func9, Try.ntmps9
    go_wp2
    go_ret
    exact ⟨rfl, rfl⟩
set_option maxHeartbeats 400000 in
theorem pieNew_yes (n : Int) (h0 : 0 ≤ n) (hn : n ≤ 4096) (w : World) :
    Calls Try.prog 9 #[.int .i64 n] w fun e w' => e = .returned (.pointer (some ⟨w.heap.size, 0, none⟩)) ∧ w' = w.alloc (.cells #[.bool true, .int .i64 n, .slice none 0 0, .slice none 0 0] 54) := by
  go_enter Try.func9, Try.ntmps9
  go_wp2
  go_ret
  exact ⟨rfl, rfl⟩
end Go.Proofs.Ytacpfkkbjibmgaa

/-
  A history's numbers: all of them; those on the way to the present state: layer 8.
-/
import Derived.Test.YtfeaffabminpfaaHiWords
import Derived.Test.YtfeaffabminpfaaHiIter
import Derived.Shelf.Slices.Reverse
namespace Go.Proofs.Ytfeaffabminpfaa
open Go.RowKit

def rowReverse_ren : Go.Shelf.Ren := ⟨fun | 112 => 43 | n => n, fun | 28 => 50 | 3 => 3 | 4 => 4 | 0 => 0 | n => n, fun | n => n⟩
theorem rowReverse : Go.Proofs.Lays.n112 Try.prog rowReverse_ren := {
  mixed := by kernel_rfl
  f112 := Try.func43.trans (congrArg some (by kernel_rfl))
  t0 := Try.underlying0
  a0 := Try.isAgg0
  z0 := Try.sizeOf0
  v0 := Try.zeroValue0
  t3 := Try.underlying3
  a3 := Try.isAgg3
  z3 := Try.sizeOf3
  v3 := Try.zeroValue3
  t4 := Try.underlying4
  a4 := Try.isAgg4
  z4 := Try.sizeOf4
  v4 := Try.zeroValue4
  t28 := Try.underlying50
  a28 := Try.isAgg50
  z28 := Try.sizeOf50
  v28 := Try.zeroValue50 }

theorem hiReverse_any (base : Nat) (w : World) (A : Option Addr) (c : Nat) (xs : List Int) (hl : xs.length ≤ 1000) (h : w.ownsRow base 3 1 (.slice A xs.length c) xs.length (xs.map intz)) (hb : base ≤ w.heap.size) :
    Calls Try.prog 43 #[.slice A xs.length c] w fun e w' => e = .returned (.tuple #[]) ∧ w'.ownsRow base 3 1 (.slice A xs.length c) xs.length (xs.reverse.map intz) ∧ Below base w w' := by
  by_cases h0 : xs.length = 0
  · have hx : xs = [] := List.eq_nil_of_length_eq_zero h0
    subst hx
    refine (Any.slices_Reverse_int_empty rowReverse A c w).mono ?_
    rintro e w' ⟨rfl, rfl⟩
    exact ⟨rfl, h, (Below.refl _ _).mono hb⟩
  · rcases h.2 with ⟨hv, _⟩ | ⟨g, cap, cur, hv, hbase, hg, h1, h2, h3, h4⟩
    · simp at hv; omega
    · simp at hv
      obtain ⟨rfl, rfl⟩ := hv
      refine (Any.slices_Reverse_int rowReverse g 0 c xs w (holds_of_block_i hg (by rw [Nat.mul_one] at h4; exact h4)) (by omega)).mono ?_
      rintro e w' ⟨rfl, n, rfl⟩
      have e1 : Sort.putRow (Value.int .i64) (Sort.ahead w n) g 0 xs.reverse.toArray = Sort.grow (Sort.putRow encZ (Sort.ahead w n) g 0 xs.reverse.toArray) #[] := by simp
      rw [e1]
      refine ⟨rfl, ?_, (Below.refl base w).grown (grownBy_sorted_i _) hb (fun j hj => by cases hj; exact hbase)⟩
      exact ownsRow_sorted_i (by simp) hbase hg h1 h2 h3

set_option maxHeartbeats 1000000 in
theorem hiStates_any {w : World} {p b : Nat} {G : List StP} {dep now last : Int} (h : Hst w p b G dep now last) (hL : G.length ≤ 1000) (hu : UpS G) :
    Calls Try.prog 21 #[.pointer (some ⟨p, 0, none⟩)] w (GivesI w (G.map StP.n)) := by
  obtain ⟨y0, y1, y2, y3⟩ := h.cells
  have H := Lib.hid h
  have HU := Lib.hid hu
  clear h hu y0 y1 y2
  go_enter Try.func21, Try.ntmps21
  go_wp2_with (first
    | (go_at_call 31; refine (hiUsable_any H.out.blk).mono ?_; rintro e w' ⟨rfl, rfl⟩)
    | (go_at_call 42; refine (hiKeys_any (some b) _).mono ?_; rintro e w' ⟨rfl, rfl⟩)
    | (go_at_call 41; refine (hiSorted_any b G _ hL H.out.map HU.out).mono ?_; rintro e w' ⟨A, c, rfl, own, bb⟩))
  go_ret
  exact ⟨A, c, by rw [List.length_map]; rfl, own, bb⟩
end Go.Proofs.Ytfeaffabminpfaa

/-
  Contracts of the document's own answers, layer 6: Bounds.
-/
import Derived.Test.YtnkhlallnblfmaaLinEnds
import Derived.Laws.OwnMore
import Derived.Deep.Cut
import Derived.OwnWalk
import Derived.Deep.QuietTactic
namespace Go.Proofs.Ytnkhlallnblfmaa
open Go.RowKit

theorem boundsL_out {S : List UInt8} {n : Int} (h : ¬ (0 ≤ n ∧ n < (countL S : Int))) : boundsL S n = ((0, 0), 2) := if_neg h
theorem boundsL_zero {S : List UInt8} : boundsL S 0 = ((0, (endsL S).getD 0 0), 0) := by
  have : 0 < countL S := by unfold countL; omega
  unfold boundsL
  rw [if_pos ⟨Int.le_refl _, by omega⟩, if_pos rfl]
  rfl
theorem boundsL_succ {S : List UInt8} {m : Nat} (h : m + 1 < countL S) : boundsL S ((m + 1 : Nat) : Int) = (((endsL S).getD m 0 + 1, (endsL S).getD (m + 1) 0), 0) := by
  unfold boundsL
  rw [if_pos ⟨by omega, by omega⟩, if_neg (by omega), Int.toNat_natCast, Nat.add_sub_cancel]

/-- two places and an error are the answer -/
def Gives3 (w : World) (r : (Nat × Nat) × Nat) (e : Ending) (w' : World) : Prop := e = .returned (.tuple #[.int .i64 (r.1.1 : Nat), .int .i64 (r.1.2 : Nat), .int .i64 (r.2 : Nat)]) ∧ Below w.heap.size w w'
theorem own_atL {w : World} {b c : Nat} {A : Option Addr} {l : List Nat} (h : w.ownsRow b 3 1 (.slice A l.length c) l.length (l.map intn)) (hl : 0 < l.length) : ∃ g, A = some ⟨g, 0, none⟩ ∧ ∀ (j : Nat) (hj : j < l.length), w.cell? ⟨g, j, none⟩ = some (.int .i64 (l[j] : Nat)) := by
  obtain ⟨g, rfl⟩ : ∃ g, A = some ⟨g, 0, none⟩ := by
    rcases h.2 with ⟨_, h⟩ | ⟨g, _, _, h, _⟩
    · omega
    · injection h with h1; exact ⟨g, h1⟩
  exact ⟨g, rfl, fun j hj => (h.cellAt j (by omega)).trans (by simp [intn, hj])⟩

set_option maxHeartbeats 1000000 in
theorem refBounds_any (S : List UInt8) (hs : S.length ≤ 1000000) (n : Int) (w : World) :
    Calls Try.prog 36 #[.string ⟨S.toArray⟩, .int .i64 n] w (Gives3 w (boundsL S n)) := by
  have hL := endsL_len S
  have hcl := countL_le S
  have hle := endsL_le S
  have HLE := Lib.hid hle
  clear hle
  by_cases hr : 0 ≤ n ∧ n < (countL S : Int)
  · obtain ⟨N, rfl⟩ : ∃ N : Nat, n = (N : Int) := ⟨n.toNat, by omega⟩
    have hN : N < countL S := by omega
    rcases N with _ | m
    · have HR := Lib.hid (boundsL_zero (S := S))
      clear hr
      go_enter Try.func36, Try.ntmps36
      go_upto_region 2 with (go_at_call 43; refine (refEnds_any S hs _).mono ?_; rintro e w1 ⟨A, c, rfl, hown, hb⟩)
      obtain ⟨g, rfl, hc⟩ := own_atL hown (by omega)
      have c0 := hc 0 (by omega)
      have HG : Hid ((endsL S).getD 0 0 = (endsL S)[0]'(by omega)) := by show List.getD _ _ _ = _; rw [List.getD_eq_getElem?_getD, List.getElem?_eq_getElem (by omega)]; rfl
      have hl0 : (0 : Int) < ((endsL S).length : Int) := by omega
      have hl1 : ¬ ((endsL S).length : Int) ≤ 0 := by omega
      generalize (endsL S)[0]'(by omega) = x at *
      clear hc hown
      go_wp2_with fail
      go_quiet (fail)
      go_wp2
      go_ret3
      exact ⟨by rw [show (((0 : Nat) : Int)) = 0 from rfl, HR.out, HG.out]; rfl, below_drewN hb _⟩
    · have HR := Lib.hid (boundsL_succ hN)
      clear hr
      go_enter Try.func36, Try.ntmps36
      go_upto_region 2 with (go_at_call 43; refine (refEnds_any S hs _).mono ?_; rintro e w1 ⟨A, c, rfl, hown, hb⟩)
      obtain ⟨g, rfl, hc⟩ := own_atL hown (by omega)
      have c0 := hc m (by omega)
      have c1 := hc (m + 1) (by omega)
      have hx := HLE.out _ (List.getElem_mem (show m < (endsL S).length by omega))
      have HG : Hid ((endsL S).getD m 0 = (endsL S)[m]'(by omega) ∧ (endsL S).getD (m + 1) 0 = (endsL S)[m + 1]'(by omega)) := by
        constructor
        · rw [List.getD_eq_getElem?_getD, List.getElem?_eq_getElem (by omega)]; rfl
        · rw [List.getD_eq_getElem?_getD, List.getElem?_eq_getElem (by omega)]; rfl
      have hl0 : (m : Int) < ((endsL S).length : Int) := by omega
      have hl1 : (m : Int) + 1 < ((endsL S).length : Int) := by omega
      have hm0 : (0 : Int) ≤ (m : Int) := by omega
      have hm1 : (0 : Int) ≤ (m : Int) + 1 := by omega
      have hm2 : ¬ (m : Int) + 1 = 0 := by omega
      have hm3 : ¬ (m : Int) + 1 < 0 := by omega
      have hww := wrap_small (m : Int) (by omega) (by omega)
      generalize (endsL S)[m]'(by omega) = x at *
      generalize (endsL S)[m + 1]'(by omega) = y at *
      have hwx := wrap_small ((x : Int) + 1) (by omega) (by omega)
      clear hc hown
      go_wp2_with fail
      go_quiet (fail)
      go_wp2
      go_ret3
      exact ⟨by rw [HR.out, HG.out.1, HG.out.2]; rfl, below_drewN hb _⟩
  · have HR := Lib.hid (boundsL_out hr)
    by_cases h0 : n < 0
    · go_enter Try.func36, Try.ntmps36
      go_wp2_with (go_at_call 43; refine (refEnds_any S hs _).mono ?_; rintro e w1 ⟨A, c, rfl, hown, hb⟩)
      go_ret3
      exact ⟨by rw [HR.out]; rfl, hb⟩
    · have h1 : ((endsL S).length : Int) ≤ n := by omega
      go_enter Try.func36, Try.ntmps36
      go_wp2_with (go_at_call 43; refine (refEnds_any S hs _).mono ?_; rintro e w1 ⟨A, c, rfl, hown, hb⟩)
      go_ret3
      exact ⟨by rw [HR.out]; rfl, hb⟩
end Go.Proofs.Ytnkhlallnblfmaa

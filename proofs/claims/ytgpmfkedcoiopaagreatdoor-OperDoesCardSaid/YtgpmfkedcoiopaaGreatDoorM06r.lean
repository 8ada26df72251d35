/-
  Merged: LinMath, LinEnds, LinBounds, LinStarts, LinCol, LinLines, LinClass, LinSigns, LinFirst, LinApart.
-/
import Derived.Test.YtgpmfkedcoiopaaGreatDoorM02u
import Derived.Laws.OwnMore
import Derived.Deep.Cut
import Derived.OwnWalk
import Derived.Deep.QuietTactic
import Derived.Test.YtgpmfkedcoiopaaGreatDoorM02v
/-
  Lines of a byte string: layer 6.
-/
namespace Go.Proofs.YtgpmfkedcoiopaaGreatDoor
open Go.RowKit

/-- where the line ends stand, up to a place -/
def endsTo (S : List UInt8) : Nat → List Nat
  | 0 => []
  | k + 1 => endsTo S k ++ (if S[k]? = some 10 then [k] else [])
/-- the line ends, and the end of the text -/
def endsL (S : List UInt8) : List Nat := endsTo S S.length ++ [S.length]
def countL (S : List UInt8) : Nat := (endsTo S S.length).length + 1
def ofL (S : List UInt8) (at_ : Int) : Nat := (endsTo S (min S.length at_.toNat)).length
theorem endsTo_len (S : List UInt8) (k : Nat) : (endsTo S k).length ≤ k := by
  induction k with
  | zero => simp [endsTo]
  | succ k ih =>
    unfold endsTo
    rw [List.length_append]
    split
    · simp; omega
    · simp; omega
theorem endsTo_yes {S : List UInt8} {k : Nat} (h : k < S.length) (hb : S[k] = 10) : endsTo S (k + 1) = endsTo S k ++ [k] := by
  show endsTo S k ++ _ = _
  rw [if_pos (by rw [List.getElem?_eq_getElem h, hb])]
theorem endsTo_no {S : List UInt8} {k : Nat} (h : k < S.length) (hb : ¬ S[k] = 10) : endsTo S (k + 1) = endsTo S k := by
  show endsTo S k ++ _ = _
  rw [if_neg (by rw [List.getElem?_eq_getElem h]; simpa using hb), List.append_nil]
theorem endsL_len (S : List UInt8) : (endsL S).length = countL S := by simp [endsL, countL]
theorem countL_le (S : List UInt8) : countL S ≤ S.length + 1 := by have := endsTo_len S S.length; unfold countL; omega
theorem endsTo_lt (S : List UInt8) (k : Nat) : ∀ x ∈ endsTo S k, x < k := by
  induction k with
  | zero => intro x hx; simp [endsTo] at hx
  | succ k ih =>
    intro x hx
    unfold endsTo at hx
    rcases List.mem_append.1 hx with hx | hx
    · have := ih x hx; omega
    · split at hx
      · simp at hx; omega
      · simp at hx
theorem endsL_le (S : List UInt8) : ∀ x ∈ endsL S, x ≤ S.length := by
  intro x hx
  rcases List.mem_append.1 hx with hx | hx
  · have := endsTo_lt S S.length x hx; omega
  · simp at hx; omega
/-- where a line begins and ends, or the error -/
def boundsL (S : List UInt8) (n : Int) : (Nat × Nat) × Nat :=
  if 0 ≤ n ∧ n < (countL S : Int) then ((if n = 0 then 0 else (endsL S).getD (n.toNat - 1) 0 + 1, (endsL S).getD n.toNat 0), 0) else ((0, 0), 2)
end Go.Proofs.YtgpmfkedcoiopaaGreatDoor

/-
  Contracts of the document's own answers, layer 6: Ends, Count, Of.
-/
namespace Go.Proofs.YtgpmfkedcoiopaaGreatDoor
open Go.RowKit

theorem nl_yes {b : UInt8} (h : b = 10) : ((b.toNat : Int) == 10) = true := by subst h; rfl
theorem nl_no {b : UInt8} (h : ¬ b = 10) : ((b.toNat : Int) == 10) = false := by
  have : b.toNat ≠ 10 := fun e => h (UInt8.toNat_inj.1 e)
  simpa using by omega

set_option maxHeartbeats 1000000 in
theorem refEnds_any (S : List UInt8) (hs : S.length ≤ 1000000) (w : World) :
    Calls Tryz.prog 128 #[.string ⟨S.toArray⟩] w fun e w' => ∃ A c, e = .returned (.slice A (endsL S).length c) ∧ w'.ownsRow w.heap.size 3 1 (.slice A (endsL S).length c) (endsL S).length ((endsL S).map intn) ∧ Below w.heap.size w w' := by
  go_enter Tryz.func128, Tryz.ntmps128
  go_wp2_with fail
  go_loopw [3, 4] (fun v i wr => ∃ k : Nat, k ≤ S.length ∧ i = .int .i64 k ∧ wr.ownsRow w.heap.size 3 1 v (endsTo S k).length ((endsTo S k).map intn) ∧ Below w.heap.size w wr) (fun _ i _ => S.length - (intOf i).toNat)
  case atStart => exact ⟨0, Nat.zero_le _, rfl, World.ownsRow_nil _ _ _ _, Below.refl _ _⟩
  case round =>
    obtain ⟨k, hk, rfl, hown, hb⟩ := hrel
    have z := hb.size
    have hel := endsTo_len S k
    by_cases hlt : k < S.length
    · have hg := byte_at S k hlt
      by_cases hb10 : S[k] = 10
      · have HT := Lib.hid (endsTo_yes hlt hb10)
        have hnl := nl_yes hb10
        have HB10 := Lib.hid hb10
        clear hb10
        generalize S[k] = b at *
        obtain ⟨A1, c1, rfl⟩ := own_form hown
        generalize hE : endsTo S k = E at *
        have HEE := Lib.hid hE
        clear hE
        go_wp2_with (at_builtin; refine wpList_push rfl _ _ _ rfl w.heap.size 3 _ 8 elt_int _ _ _ _ rfl hown (.int .i64 (k : Nat)) rfl rfl (by unfold maxLen; omega) (by omega) z ?_; intro v2 w2 hown2 hb2)
        go_roundw
        case rel => exact ⟨k + 1, by omega, by go_num, by rw [HT.out, List.length_append, List.map_append]; exact hown2, hb.trans hb2⟩
        case measure => simp [intOf]; omega
      · have HT := Lib.hid (endsTo_no hlt hb10)
        have hnl := nl_no hb10
        clear hb10
        generalize S[k] = b at *
        go_wp2_with fail
        go_roundw
        case rel => exact ⟨k + 1, by omega, by go_num, by rw [HT.out]; exact hown, hb⟩
        case measure => simp [intOf]; omega
    · obtain rfl : k = S.length := by omega
      obtain ⟨A1, c1, rfl⟩ := own_form hown
      have HEL : Hid (endsL S = endsTo S S.length ++ [S.length]) := rfl
      generalize endsTo S S.length = E at *
      go_wp2_with (at_builtin; refine wpList_push rfl _ _ _ rfl w.heap.size 3 _ 8 elt_int _ _ _ _ rfl hown (.int .i64 (S.length : Nat)) rfl rfl (by unfold maxLen; omega) (by omega) z ?_; intro v2 w2 hown2 hb2)
      go_ret
      obtain ⟨A2, c2, rfl⟩ := own_form hown2
      refine ⟨A2, c2, ?_, ?_, hb.trans hb2⟩
      · rw [HEL.out, List.length_append]; rfl
      · rw [HEL.out, List.length_append, List.map_append]; exact hown2

theorem refCount_any (S : List UInt8) (hs : S.length ≤ 1000000) (w : World) :
    Calls Tryz.prog 106 #[.string ⟨S.toArray⟩] w fun e w' => e = .returned (.int .i64 (countL S : Nat)) ∧ Below w.heap.size w w' := by
  have HL := Lib.hid (endsL_len S)
  go_enter Tryz.func106, Tryz.ntmps106
  go_wp2_with (go_at_call 128; refine (refEnds_any S hs _).mono ?_; rintro e w1 ⟨A, c, rfl, hown, hb⟩)
  go_ret
  exact ⟨by rw [← HL.out]; rfl, hb⟩

set_option maxHeartbeats 1000000 in
theorem refOf_any (S : List UInt8) (hs : S.length ≤ 1000000) (p : Int) (w : World) :
    Calls Tryz.prog 43 #[.string ⟨S.toArray⟩, .int .i64 p] w fun e w' => e = .returned (.int .i64 (ofL S p : Nat)) ∧ Below w.heap.size w w' := by
  go_enter Tryz.func43, Tryz.ntmps43
  go_wp2_with fail
  go_loopw [5, 6] (fun n i wr => ∃ k : Nat, k ≤ min S.length p.toNat ∧ i = .int .i64 k ∧ n = .int .i64 ((endsTo S k).length : Nat) ∧ Below w.heap.size w wr) (fun _ i _ => S.length - (intOf i).toNat)
  case atStart => exact ⟨0, Nat.zero_le _, rfl, rfl, Below.refl _ _⟩
  case round =>
    obtain ⟨k, hk, rfl, rfl, hb⟩ := hrel
    have hel := endsTo_len S k
    have hkS : k ≤ S.length := by omega
    by_cases hlt : k < S.length
    · have hlt' : (k : Int) < (S.length : Int) := by omega
      by_cases hp : (k : Int) < p
      · have hg := byte_at S k hlt
        by_cases hb10 : S[k] = 10
        · have HT := Lib.hid (endsTo_yes hlt hb10)
          have hnl := nl_yes hb10
          clear hb10
          generalize S[k] = b at *
          generalize endsTo S k = E at *
          go_wp2_with fail
          go_roundw
          case rel => exact ⟨k + 1, by omega, by go_num, by rw [HT.out, List.length_append]; go_num, hb⟩
          case measure => simp [intOf]; omega
        · have HT := Lib.hid (endsTo_no hlt hb10)
          have hnl := nl_no hb10
          clear hb10
          generalize S[k] = b at *
          go_wp2_with fail
          go_roundw
          case rel => exact ⟨k + 1, by omega, by go_num, by rw [HT.out], hb⟩
          case measure => simp [intOf]; omega
      · have HK : Hid (min S.length p.toNat = k) := by show _ = _; omega
        go_wp2_with fail
        go_ret
        exact ⟨by unfold ofL; rw [HK.out]; rfl, hb⟩
    · have hlt' : ¬ (k : Int) < (S.length : Int) := by omega
      have HK : Hid (min S.length p.toNat = k) := by show _ = _; omega
      go_wp2_with fail
      go_ret
      exact ⟨by unfold ofL; rw [HK.out]; rfl, hb⟩
end Go.Proofs.YtgpmfkedcoiopaaGreatDoor

/-
  Contracts of the document's own answers, layer 6: Bounds.
-/
namespace Go.Proofs.YtgpmfkedcoiopaaGreatDoor
open Go.RowKit

theorem boundsL_out {S : List UInt8} {n : Int} (h : ¬ (0 ≤ n ∧ n < (countL S : Int))) : boundsL S n = ((0, 0), 2) := if_neg h
theorem boundsL_zero {S : List UInt8} : boundsL S 0 = ((0, (endsL S).getD 0 0), 0) := by
  have : 0 < countL S := by unfold countL; omega
  unfold boundsL
  rw [if_pos ⟨Int.le_refl _, by omega⟩, if_pos rfl]
  rfl
theorem boundsL_succ {S : List UInt8} {m : Nat} (h : m + 1 < countL S) : boundsL S ((m + 1 : Nat) : Int) = (((endsL S).getD m 0 + 1, (endsL S).getD (m + 1) 0), 0) := by
  unfold boundsL
  rw [if_pos ⟨by omega, by omega⟩, if_neg (by omega), Int.toNat_natCast, Nat.add_sub_cancel]

/-- two places and an error are the answer -/
def Gives3 (w : World) (r : (Nat × Nat) × Nat) (e : Ending) (w' : World) : Prop := e = .returned (.tuple #[.int .i64 (r.1.1 : Nat), .int .i64 (r.1.2 : Nat), .int .i64 (r.2 : Nat)]) ∧ Below w.heap.size w w'
theorem own_atL {w : World} {b c : Nat} {A : Option Addr} {l : List Nat} (h : w.ownsRow b 3 1 (.slice A l.length c) l.length (l.map intn)) (hl : 0 < l.length) : ∃ g, A = some ⟨g, 0, none⟩ ∧ ∀ (j : Nat) (hj : j < l.length), w.cell? ⟨g, j, none⟩ = some (.int .i64 (l[j] : Nat)) := by
  obtain ⟨g, rfl⟩ : ∃ g, A = some ⟨g, 0, none⟩ := by
    rcases h.2 with ⟨_, h⟩ | ⟨g, _, _, h, _⟩
    · omega
    · injection h with h1; exact ⟨g, h1⟩
  exact ⟨g, rfl, fun j hj => (h.cellAt j (by omega)).trans (by simp [intn, hj])⟩

set_option maxHeartbeats 1000000 in
theorem refBounds_any (S : List UInt8) (hs : S.length ≤ 1000000) (n : Int) (w : World) :
    Calls Tryz.prog 71 #[.string ⟨S.toArray⟩, .int .i64 n] w (Gives3 w (boundsL S n)) := by
  have hL := endsL_len S
  have hcl := countL_le S
  have hle := endsL_le S
  have HLE := Lib.hid hle
  clear hle
  by_cases hr : 0 ≤ n ∧ n < (countL S : Int)
  · obtain ⟨N, rfl⟩ : ∃ N : Nat, n = (N : Int) := ⟨n.toNat, by omega⟩
    have hN : N < countL S := by omega
    rcases N with _ | m
    · have HR := Lib.hid (boundsL_zero (S := S))
      clear hr
      go_enter Tryz.func71, Tryz.ntmps71
      go_upto_region 2 with (go_at_call 128; refine (refEnds_any S hs _).mono ?_; rintro e w1 ⟨A, c, rfl, hown, hb⟩)
      obtain ⟨g, rfl, hc⟩ := own_atL hown (by omega)
      have c0 := hc 0 (by omega)
      have HG : Hid ((endsL S).getD 0 0 = (endsL S)[0]'(by omega)) := by show List.getD _ _ _ = _; rw [List.getD_eq_getElem?_getD, List.getElem?_eq_getElem (by omega)]; rfl
      have hl0 : (0 : Int) < ((endsL S).length : Int) := by omega
      have hl1 : ¬ ((endsL S).length : Int) ≤ 0 := by omega
      generalize (endsL S)[0]'(by omega) = x at *
      clear hc hown
      go_wp2_with fail
      go_quiet (fail)
      go_wp2
      go_ret3
      exact ⟨by rw [show (((0 : Nat) : Int)) = 0 from rfl, HR.out, HG.out]; rfl, below_drewN hb _⟩
    · have HR := Lib.hid (boundsL_succ hN)
      clear hr
      go_enter Tryz.func71, Tryz.ntmps71
      go_upto_region 2 with (go_at_call 128; refine (refEnds_any S hs _).mono ?_; rintro e w1 ⟨A, c, rfl, hown, hb⟩)
      obtain ⟨g, rfl, hc⟩ := own_atL hown (by omega)
      have c0 := hc m (by omega)
      have c1 := hc (m + 1) (by omega)
      have hx := HLE.out _ (List.getElem_mem (show m < (endsL S).length by omega))
      have HG : Hid ((endsL S).getD m 0 = (endsL S)[m]'(by omega) ∧ (endsL S).getD (m + 1) 0 = (endsL S)[m + 1]'(by omega)) := by
        constructor
        · rw [List.getD_eq_getElem?_getD, List.getElem?_eq_getElem (by omega)]; rfl
        · rw [List.getD_eq_getElem?_getD, List.getElem?_eq_getElem (by omega)]; rfl
      have hl0 : (m : Int) < ((endsL S).length : Int) := by omega
      have hl1 : (m : Int) + 1 < ((endsL S).length : Int) := by omega
      have hm0 : (0 : Int) ≤ (m : Int) := by omega
      have hm1 : (0 : Int) ≤ (m : Int) + 1 := by omega
      have hm2 : ¬ (m : Int) + 1 = 0 := by omega
      have hm3 : ¬ (m : Int) + 1 < 0 := by omega
      have hww := wrap_small (m : Int) (by omega) (by omega)
      generalize (endsL S)[m]'(by omega) = x at *
      generalize (endsL S)[m + 1]'(by omega) = y at *
      have hwx := wrap_small ((x : Int) + 1) (by omega) (by omega)
      clear hc hown
      go_wp2_with fail
      go_quiet (fail)
      go_wp2
      go_ret3
      exact ⟨by rw [HR.out, HG.out.1, HG.out.2]; rfl, below_drewN hb _⟩
  · have HR := Lib.hid (boundsL_out hr)
    by_cases h0 : n < 0
    · go_enter Tryz.func71, Tryz.ntmps71
      go_wp2_with (go_at_call 128; refine (refEnds_any S hs _).mono ?_; rintro e w1 ⟨A, c, rfl, hown, hb⟩)
      go_ret3
      exact ⟨by rw [HR.out]; rfl, hb⟩
    · have h1 : ((endsL S).length : Int) ≤ n := by omega
      go_enter Tryz.func71, Tryz.ntmps71
      go_wp2_with (go_at_call 128; refine (refEnds_any S hs _).mono ?_; rintro e w1 ⟨A, c, rfl, hown, hb⟩)
      go_ret3
      exact ⟨by rw [HR.out]; rfl, hb⟩
end Go.Proofs.YtgpmfkedcoiopaaGreatDoor

/-
  Contracts of the document's own answers, layer 6: starts, brought, last, Place.
-/
namespace Go.Proofs.YtgpmfkedcoiopaaGreatDoor
open Go.RowKit

def inLine (S : List UInt8) (n : Int) (x : Nat) : Bool := decide ((boundsL S n).1.1 ≤ x) && decide (x < (boundsL S n).1.2)
/-- where the signs of a line begin -/
def startsL (S : List UInt8) (n : Int) : List Nat := (startsAt 0 (chars S)).filter (inLine S n)
theorem filter_take {α : Type} (l : List α) (p : α → Bool) (k : Nat) (h : k < l.length) : (l.take (k + 1)).filter p = (l.take k).filter p ++ (if p l[k] = true then [l[k]] else []) := by
  rw [List.take_succ_eq_append_getElem h, List.filter_append]
  congr 1
  by_cases hp : p l[k] = true
  · rw [if_pos hp]; simp [hp]
  · rw [if_neg hp]; simp [hp]
set_option maxHeartbeats 2000000 in
theorem refLStarts_any (S : List UInt8) (hs : S.length ≤ 1000000) (n : Int) (w : World) :
    Calls Tryz.prog 159 #[.string ⟨S.toArray⟩, .int .i64 n] w fun e w' => ∃ A c, e = .returned (.slice A (startsL S n).length c) ∧ w'.ownsRow w.heap.size 3 1 (.slice A (startsL S n).length c) (startsL S n).length ((startsL S n).map intn) ∧ Below w.heap.size w w' := by
  have hsl : (startsAt 0 (chars S)).length = (chars S).length := startsAt_len _ _
  have hcl := chars_len S
  have HSL : Hid (startsL S n = (startsAt 0 (chars S)).filter (inLine S n)) := rfl
  have HIN : Hid (∀ x, inLine S n x = (decide ((boundsL S n).1.1 ≤ x) && decide (x < (boundsL S n).1.2))) := fun _ => rfl
  go_enter Tryz.func159, Tryz.ntmps159
  go_upto_region 2 with (go_at_call 71; refine (refBounds_any S hs n _).mono ?_; rintro e w1 ⟨rfl, b1⟩)
  generalize boundsL S n = r at *
  obtain ⟨⟨F, T⟩, E⟩ := r
  dsimp only at HIN
  have z1 := b1.size
  go_upto_region 3 with (go_at_call 186; refine (refStarts_any S hs _).mono ?_; rintro e w2 ⟨A2, c2, rfl, hown2, b2⟩)
  generalize startsAt 0 (chars S) = l at *
  generalize inLine S n = p at *
  have z2 := b2.size
  have HR := Lib.hid (Row.of_own hown2)
  have hll : l.length ≤ S.length := by omega
  clear hown2
  go_wp2_with fail
  go_loopw [9, 10] (fun v i wr => ∃ k : Nat, k ≤ l.length ∧ i = .int .i64 k ∧ wr.ownsRow w2.heap.size 3 1 v ((l.take k).filter p).length (((l.take k).filter p).map intn) ∧ Below w2.heap.size w2 wr) (fun _ i _ => l.length - (intOf i).toNat)
  case atStart => exact ⟨0, Nat.zero_le _, rfl, World.ownsRow_nil _ _ _ _, Below.refl _ _⟩
  case round =>
    obtain ⟨k, hk, rfl, hown, hb⟩ := hrel
    have z := hb.size
    obtain ⟨A1, c1, rfl⟩ := own_form hown
    have hfl : ((l.take k).filter p).length ≤ k := Nat.le_trans (List.length_filter_le _ _) (by rw [List.length_take]; omega)
    by_cases hlt : k < l.length
    · obtain ⟨ad, rfl, hbl, c0⟩ := (HR.out.below hb).map_at hlt
      have HT := Lib.hid (filter_take l p k hlt)
      have HP := Lib.hid (HIN.out l[k])
      unfold intn at c0
      generalize l[k] = x at *
      generalize hE : (l.take k).filter p = E0 at *
      have HEE := Lib.hid hE
      clear hE
      by_cases hp1 : F ≤ x
      · by_cases hp2 : x < T
        · have hpx : p x = true := by rw [HP.out]; simp [hp1, hp2]
          rw [if_pos hpx] at HT
          have q1 : (F : Int) ≤ (x : Int) := by omega
          have q2 : (x : Int) < (T : Int) := by omega
          go_wp2_with (at_builtin; refine wpList_push rfl _ _ _ rfl w2.heap.size 3 _ 8 elt_int _ _ _ _ rfl hown (.int .i64 (x : Nat)) rfl rfl (by unfold maxLen; omega) (by omega) z ?_; intro v5 w5 hown5 hb5)
          go_roundw
          case rel => exact ⟨k + 1, by omega, by go_num, by rw [HT.out, List.length_append, List.map_append]; exact hown5, hb.trans hb5⟩
          case measure => simp [intOf]; omega
        · have hpx : ¬ p x = true := by rw [HP.out]; simp; omega
          rw [if_neg hpx, List.append_nil] at HT
          have q1 : (F : Int) ≤ (x : Int) := by omega
          have q2 : ¬ (x : Int) < (T : Int) := by omega
          go_wp2_with fail
          go_roundw
          case rel => exact ⟨k + 1, by omega, by go_num, by rw [HT.out]; exact hown, hb⟩
          case measure => simp [intOf]; omega
      · have hpx : ¬ p x = true := by rw [HP.out]; simp; omega
        rw [if_neg hpx, List.append_nil] at HT
        have q1 : ¬ (F : Int) ≤ (x : Int) := by omega
        go_wp2_with fail
        go_roundw
        case rel => exact ⟨k + 1, by omega, by go_num, by rw [HT.out]; exact hown, hb⟩
        case measure => simp [intOf]; omega
    · obtain rfl : k = l.length := by omega
      rw [List.take_length] at hown hfl
      go_wp2_with fail
      go_ret
      refine ⟨A1, c1, ?_, ?_, b1.trans ((b2.mono z1).trans (hb.mono (by omega)))⟩
      · rw [HSL.out, List.take_length]; rfl
      · rw [HSL.out]; exact own_base hown (by omega)

/-- a line's number, clamped -/
def broughtL (S : List UInt8) (n : Int) : Nat := min n.toNat (countL S - 1)
theorem countL_pos (S : List UInt8) : 0 < countL S := by unfold countL; omega
theorem refBrought_any (S : List UInt8) (hs : S.length ≤ 1000000) (n : Int) (w : World) :
    Calls Tryz.prog 158 #[.string ⟨S.toArray⟩, .int .i64 n] w fun e w' => e = .returned (.int .i64 (broughtL S n : Nat)) ∧ Below w.heap.size w w' := by
  have hcl := countL_le S
  have hcp := countL_pos S
  have hw := wrap_small ((countL S : Int) - 1) (by omega) (by omega)
  by_cases h0 : n < 0
  · have HB : Hid (broughtL S n = 0) := by show _ = _; unfold broughtL; omega
    go_enter Tryz.func158, Tryz.ntmps158
    go_wp2_with (go_at_call 106; refine (refCount_any S hs _).mono ?_; rintro e w1 ⟨rfl, b1⟩)
    go_ret
    exact ⟨by rw [HB.out]; rfl, b1⟩
  · by_cases h1 : n ≤ (countL S : Int) - 1
    · have HB : Hid (((broughtL S n : Nat) : Int) = n) := by show _ = _; unfold broughtL; omega
      go_enter Tryz.func158, Tryz.ntmps158
      go_wp2_with (go_at_call 106; refine (refCount_any S hs _).mono ?_; rintro e w1 ⟨rfl, b1⟩)
      go_ret
      exact ⟨by rw [HB.out]; rfl, b1⟩
    · have HB : Hid (((broughtL S n : Nat) : Int) = (countL S : Int) - 1) := by show _ = _; unfold broughtL; omega
      go_enter Tryz.func158, Tryz.ntmps158
      go_wp2_with (go_at_call 106; refine (refCount_any S hs _).mono ?_; rintro e w1 ⟨rfl, b1⟩)
      go_ret
      exact ⟨by rw [HB.out]; rfl, b1⟩

/-- a line's last sign -/
def lastL (S : List UInt8) (n : Int) : Nat := if startsL S n = [] then (boundsL S n).1.1 else (startsL S n).getD ((startsL S n).length - 1) 0
theorem startsL_len (S : List UInt8) (n : Int) : (startsL S n).length ≤ S.length := by
  have h := List.length_filter_le (inLine S n) (startsAt 0 (chars S))
  have h2 : (startsAt 0 (chars S)).length = (chars S).length := startsAt_len _ _
  have h3 := chars_len S
  unfold startsL
  omega
set_option maxHeartbeats 1000000 in
theorem refLast_any (S : List UInt8) (hs : S.length ≤ 1000000) (n : Int) (w : World) :
    Calls Tryz.prog 160 #[.string ⟨S.toArray⟩, .int .i64 n] w fun e w' => e = .returned (.int .i64 (lastL S n : Nat)) ∧ Below w.heap.size w w' := by
  have hsl := startsL_len S n
  by_cases hn : startsL S n = []
  · have HL : Hid (lastL S n = (boundsL S n).1.1) := if_pos hn
    have hl0 : (startsL S n).length = 0 := by rw [hn]; rfl
    clear hn
    go_enter Tryz.func160, Tryz.ntmps160
    go_wp2_with (first
      | (go_at_call 159; refine (refLStarts_any S hs n _).mono ?_; rintro e w1 ⟨A, c, rfl, hown, b1⟩)
      | (go_at_call 71; refine (refBounds_any S hs n _).mono ?_; rintro e w2 ⟨rfl, b2⟩))
    go_ret
    exact ⟨by rw [HL.out]; rfl, b1.trans (b2.mono b1.size)⟩
  · have HL : Hid (lastL S n = (startsL S n).getD ((startsL S n).length - 1) 0) := if_neg hn
    have hl0 : 0 < (startsL S n).length := List.length_pos_iff.2 hn
    obtain ⟨q, hq⟩ : ∃ q, (startsL S n).length = q + 1 := ⟨(startsL S n).length - 1, by omega⟩
    clear hn
    go_enter Tryz.func160, Tryz.ntmps160
    go_upto_region 2 with (go_at_call 159; refine (refLStarts_any S hs n _).mono ?_; rintro e w1 ⟨A, c, rfl, hown, b1⟩)
    obtain ⟨g, rfl, hc⟩ := own_atL hown hl0
    have c0 := hc q (by omega)
    have HG : Hid ((startsL S n).getD ((startsL S n).length - 1) 0 = (startsL S n)[q]'(by omega)) := by
      show List.getD _ _ _ = _
      have e : (startsL S n).length - 1 = q := by omega
      rw [e, List.getD_eq_getElem?_getD, List.getElem?_eq_getElem (by omega)]; rfl
    generalize (startsL S n)[q]'(by omega) = x at *
    clear hc hown
    have HQ := Lib.hid hq
    have hww := wrap_small (q : Int) (by omega) (by omega)
    have hq0 : (0 : Int) ≤ (q : Int) := by omega
    have hq1 : (q : Int) < (q : Int) + 1 := by omega
    have hq2 : ¬ (q : Int) + 1 = 0 := by omega
    go_wp2_with fail
    go_ret
    exact ⟨by rw [HL.out, HG.out]; rfl, b1⟩

/-- the place of a column -/
def placeL (S : List UInt8) (n col : Int) : Nat := if col.toNat < (startsL S (broughtL S n)).length then (startsL S (broughtL S n)).getD col.toNat 0 else lastL S (broughtL S n)
end Go.Proofs.YtgpmfkedcoiopaaGreatDoor

/-
  Contracts of the document's own answers, layer 6: Col.
-/
namespace Go.Proofs.YtgpmfkedcoiopaaGreatDoor
open Go.RowKit

/-- the column of a place at which a sign begins -/
def colAt (S : List UInt8) (a : Nat) : Nat := ((startsL S (ofL S a)).filter (fun x => decide (x < a))).length

/-- the bytes that go with whole lines -/
def wholeL (S : List UInt8) (a b : Int) : (Nat × Nat) × Nat :=
  if 0 ≤ a ∧ a ≤ b ∧ b < (countL S : Int) then
    (if b + 1 < (countL S : Int) then (((boundsL S a).1.1, (boundsL S (b + 1)).1.1), 0) else if 0 < a then (((boundsL S a).1.1 - 1, S.length), 0) else ((0, S.length), 0))
  else ((0, 0), 2)
theorem wholeL_bad {S : List UInt8} {a b : Int} (h : ¬ (0 ≤ a ∧ a ≤ b ∧ b < (countL S : Int))) : wholeL S a b = ((0, 0), 2) := if_neg h
theorem wholeL_good {S : List UInt8} {a b : Int} (h : 0 ≤ a ∧ a ≤ b ∧ b < (countL S : Int)) : wholeL S a b = (if b + 1 < (countL S : Int) then (((boundsL S a).1.1, (boundsL S (b + 1)).1.1), 0) else if 0 < a then (((boundsL S a).1.1 - 1, S.length), 0) else ((0, S.length), 0)) := if_pos h
theorem boundsL_pos {S : List UInt8} {a : Int} (h : 0 < a) (h2 : a < (countL S : Int)) : 0 < (boundsL S a).1.1 ∧ (boundsL S a).1.1 ≤ S.length + 1 := by
  obtain ⟨m, rfl⟩ : ∃ m : Nat, a = ((m + 1 : Nat) : Int) := ⟨a.toNat - 1, by omega⟩
  have hm : m + 1 < countL S := by omega
  rw [boundsL_succ hm]
  have hl := endsL_len S
  refine ⟨by show 0 < _ + 1; omega, ?_⟩
  have hx := endsL_le S _ (List.getElem_mem (show m < (endsL S).length by omega))
  show List.getD _ _ _ + 1 ≤ _
  rw [List.getD_eq_getElem?_getD, List.getElem?_eq_getElem (by omega)]
  show (endsL S)[m] + 1 ≤ _
  omega

attribute [local irreducible] boundsL countL wholeL
set_option maxHeartbeats 1000000 in
theorem refWhole_any (S : List UInt8) (hs : S.length ≤ 1000000) (a b : Int) (w : World) :
    Calls Tryz.prog 109 #[.string ⟨S.toArray⟩, .int .i64 a, .int .i64 b] w (Gives3 w (wholeL S a b)) := by
  have hcl := countL_le S
  by_cases h : 0 ≤ a ∧ a ≤ b ∧ b < (countL S : Int)
  · obtain ⟨h0, h1, h2⟩ := h
    have g0 : ¬ a < 0 := by omega
    have g1 : ¬ b < a := by omega
    have g2 : ¬ (countL S : Int) ≤ b := by omega
    have hw := wrap_small (b + 1) (by omega) (by omega)
    have hgo : wholeL S a b = (if b + 1 < (countL S : Int) then (((boundsL S a).1.1, (boundsL S (b + 1)).1.1), 0) else if 0 < a then (((boundsL S a).1.1 - 1, S.length), 0) else ((0, S.length), 0)) := wholeL_good ⟨h0, h1, h2⟩
    by_cases h3 : b + 1 < (countL S : Int)
    · rw [if_pos h3] at hgo
      have HG := Lib.hid hgo
      clear hgo
      go_enter Tryz.func109, Tryz.ntmps109
      go_upto_region 5 with (first
        | (go_at_call 106; refine (refCount_any S hs _).mono ?_; rintro e w1 ⟨rfl, b1⟩)
        | (go_at_call 71; refine (refBounds_any S hs a _).mono ?_; rintro e w2 ⟨rfl, b2⟩))
      generalize boundsL S a = r at *
      obtain ⟨⟨F, T⟩, E⟩ := r
      dsimp only at HG ⊢
      go_upto_region 7 with (go_at_call 71; refine (refBounds_any S hs (b + 1) _).mono ?_; rintro e w3 ⟨rfl, b3⟩)
      go_wp2_with fail
      go_ret3
      exact ⟨by rw [HG.out]; rfl, b1.trans ((b2.mono b1.size).trans (b3.mono (Nat.le_trans b1.size b2.size)))⟩
    · rw [if_neg h3] at hgo
      by_cases h4 : 0 < a
      · rw [if_pos h4] at hgo
        have HG := Lib.hid hgo
        obtain ⟨hp, hq⟩ := boundsL_pos (S := S) h4 (by omega)
        have HS : Hid ((((boundsL S a).1.1 - 1 : Nat) : Int) = ((boundsL S a).1.1 : Int) - 1) := by show _ = _; omega
        have hwx := wrap_small (((boundsL S a).1.1 : Int) - 1) (by omega) (by omega)
        clear hgo
        go_enter Tryz.func109, Tryz.ntmps109
        go_wp2_with (first
          | (go_at_call 106; refine (refCount_any S hs _).mono ?_; rintro e w1 ⟨rfl, b1⟩)
          | (go_at_call 71; refine (refBounds_any S hs a _).mono ?_; rintro e w2 ⟨rfl, b2⟩))
        go_ret3
        exact ⟨by rw [HG.out]; dsimp only; rw [HS.out]; rfl, b1.trans (b2.mono b1.size)⟩
      · rw [if_neg h4] at hgo
        have HG := Lib.hid hgo
        clear hgo
        go_enter Tryz.func109, Tryz.ntmps109
        go_wp2_with (first
          | (go_at_call 106; refine (refCount_any S hs _).mono ?_; rintro e w1 ⟨rfl, b1⟩)
          | (go_at_call 71; refine (refBounds_any S hs a _).mono ?_; rintro e w2 ⟨rfl, b2⟩))
        go_ret3
        exact ⟨by rw [HG.out]; rfl, b1.trans (b2.mono b1.size)⟩
  · have HG := Lib.hid (wholeL_bad h)
    by_cases h0 : a < 0
    · go_enter Tryz.func109, Tryz.ntmps109
      go_wp2_with (go_at_call 106; refine (refCount_any S hs _).mono ?_; rintro e w1 ⟨rfl, b1⟩)
      go_ret3
      exact ⟨by rw [HG.out]; rfl, b1⟩
    · by_cases h1 : b < a
      · go_enter Tryz.func109, Tryz.ntmps109
        go_wp2_with (go_at_call 106; refine (refCount_any S hs _).mono ?_; rintro e w1 ⟨rfl, b1⟩)
        go_ret3
        exact ⟨by rw [HG.out]; rfl, b1⟩
      · have h2 : (countL S : Int) ≤ b := by omega
        go_enter Tryz.func109, Tryz.ntmps109
        go_wp2_with (go_at_call 106; refine (refCount_any S hs _).mono ?_; rintro e w1 ⟨rfl, b1⟩)
        go_ret3
        exact ⟨by rw [HG.out]; rfl, b1⟩
end Go.Proofs.YtgpmfkedcoiopaaGreatDoor

/-
  The lines of a byte string as a list: layer 6. No program here.
-/
namespace Go.Proofs.YtgpmfkedcoiopaaGreatDoor
open Go.RowKit

/-- the lines of a text -/
def linesOf : List UInt8 → List (List UInt8)
  | [] => [[]]
  | b :: t => if b = 10 then [] :: linesOf t else (b :: (linesOf t).headD []) :: (linesOf t).tail
theorem linesOf_ne (t : List UInt8) : linesOf t ≠ [] := by
  cases t with
  | nil => simp [linesOf]
  | cons b t => unfold linesOf; split <;> simp
theorem linesOf_app (l r : List UInt8) : linesOf (l ++ 10 :: r) = linesOf l ++ linesOf r := by
  induction l with
  | nil => simp [linesOf]
  | cons b t ih =>
    rw [List.cons_append]
    by_cases hb : b = 10
    · simp only [linesOf, if_pos hb, ih, List.cons_append]
    · simp only [linesOf, if_neg hb, ih]
      have hn := linesOf_ne t
      cases hl : linesOf t with
      | nil => exact absurd hl hn
      | cons x xs => simp
theorem linesOf_len (t : List UInt8) : (linesOf t).length = t.count 10 + 1 := by
  induction t with
  | nil => rfl
  | cons b t ih =>
    by_cases hb : b = 10
    · subst hb; simp [linesOf, ih]
    · have hn := linesOf_ne t
      have hl : 0 < (linesOf t).length := List.length_pos_iff.2 hn
      simp only [linesOf, if_neg hb, List.length_cons, List.length_tail, ih]
      rw [List.count_cons_of_ne hb]; omega
/-- the first line goes up to the first line end -/
theorem linesOf_head : ∀ (m : Nat) (t : List UInt8), (∀ x, x < m → t[x]? ≠ some 10) → (m = t.length ∨ t[m]? = some 10) → (linesOf t).headD [] = t.take m := by
  intro m
  induction m with
  | zero =>
    intro t _ h
    cases t with
    | nil => rfl
    | cons b t =>
      rcases h with h | h
      · simp at h
      · obtain rfl : b = 10 := by simpa using h
        simp [linesOf]
  | succ m ih =>
    intro t h1 h2
    cases t with
    | nil => simp [linesOf]
    | cons b t =>
      have hb : b ≠ 10 := by have := h1 0 (by omega); simpa using this
      have h := ih t (fun x hx => by have := h1 (x + 1) (by omega); simpa using this) (by simpa using h2)
      simp only [linesOf, if_neg hb, List.take_succ_cons, List.headD_cons, h]

theorem endsTo_more (S : List UInt8) {i k : Nat} (h : i ≤ k) : ∃ r, endsTo S k = endsTo S i ++ r := by
  induction k with
  | zero => exact ⟨[], by rw [show i = 0 by omega]; simp⟩
  | succ k ih =>
    rcases Nat.lt_or_ge i (k + 1) with hi | hi
    · obtain ⟨r, hr⟩ := ih (by omega)
      exact ⟨r ++ (if S[k]? = some 10 then [k] else []), by rw [← List.append_assoc, ← hr]; rfl⟩
    · exact ⟨[], by rw [show i = k + 1 by omega]; simp⟩
theorem endsTo_mono (S : List UInt8) {i k : Nat} (h : i ≤ k) : (endsTo S i).length ≤ (endsTo S k).length := by
  obtain ⟨r, hr⟩ := endsTo_more S h
  rw [hr, List.length_append]; omega
theorem endsTo_one {S : List UInt8} {x : Nat} (h : S[x]? = some 10) : endsTo S (x + 1) = endsTo S x ++ [x] := by
  show endsTo S x ++ _ = _
  rw [if_pos h]
theorem endsTo_get {S : List UInt8} : ∀ (k j x : Nat), (endsTo S k)[j]? = some x → x < k ∧ S[x]? = some 10 ∧ (endsTo S x).length = j := by
  intro k
  induction k with
  | zero => intro j x h; simp [endsTo] at h
  | succ k ih =>
    intro j x h
    unfold endsTo at h
    rcases Nat.lt_or_ge j (endsTo S k).length with hj | hj
    · rw [List.getElem?_append_left hj] at h
      obtain ⟨h1, h2, h3⟩ := ih j x h
      exact ⟨by omega, h2, h3⟩
    · rw [List.getElem?_append_right hj] at h
      split at h
      · rename_i h10
        rcases Nat.eq_zero_or_pos (j - (endsTo S k).length) with h0 | h0
        · rw [h0] at h
          obtain rfl : k = x := by simpa using h
          exact ⟨by omega, h10, by omega⟩
        · rw [List.getElem?_eq_none (by simp; omega)] at h; cases h
      · simp at h
theorem endsTo_has {S : List UInt8} {x k : Nat} (hk : x < k) (h : S[x]? = some 10) : (endsTo S k)[(endsTo S x).length]? = some x := by
  obtain ⟨r, hr⟩ := endsTo_more S (show x + 1 ≤ k by omega)
  rw [hr, endsTo_one h]
  simp
theorem endsTo_count (S : List UInt8) (k : Nat) : (endsTo S k).length = (S.take k).count 10 := by
  induction k with
  | zero => simp [endsTo]
  | succ k ih =>
    unfold endsTo
    rw [List.length_append, ih, List.take_add_one, List.count_append]
    congr 1
    cases h : S[k]? with
    | none => simp
    | some b =>
      by_cases hb : b = 10
      · subst hb; simp
      · simp [hb]
theorem countL_count (S : List UInt8) : countL S = S.count 10 + 1 := by
  unfold countL; rw [endsTo_count, List.take_length]

/-- where a line begins, and where it ends -/
def begL (S : List UInt8) (n : Nat) : Nat := if n = 0 then 0 else (endsL S).getD (n - 1) 0 + 1
def endL (S : List UInt8) (n : Nat) : Nat := (endsL S).getD n 0
theorem boundsL_nat {S : List UInt8} {n : Nat} (h : n < countL S) : boundsL S (n : Int) = ((begL S n, endL S n), 0) := by
  unfold boundsL begL endL
  rw [if_pos ⟨by omega, by omega⟩, Int.toNat_natCast]
  by_cases h0 : n = 0
  · rw [if_pos (by omega), if_pos h0]
  · rw [if_neg (by omega), if_neg h0]
theorem ends_inner {S : List UInt8} {n : Nat} (h : n + 1 < countL S) : S[endL S n]? = some 10 ∧ endL S n < S.length ∧ (endsTo S (endL S n)).length = n := by
  unfold countL at h
  have hn : n < (endsTo S S.length).length := by omega
  have e : (endsTo S S.length)[n]? = some (endL S n) := by
    unfold endL endsL
    rw [List.getD_eq_getElem?_getD, List.getElem?_append_left hn, List.getElem?_eq_getElem hn]; rfl
  obtain ⟨h1, h2, h3⟩ := endsTo_get _ _ _ e
  exact ⟨h2, h1, h3⟩
theorem ends_last {S : List UInt8} {n : Nat} (h : n + 1 = countL S) : endL S n = S.length := by
  unfold countL at h
  unfold endL endsL
  rw [List.getD_eq_getElem?_getD, List.getElem?_append_right (by omega), show n - (endsTo S S.length).length = 0 by omega]; rfl
theorem beg_zero (S : List UInt8) : begL S 0 = 0 := if_pos rfl
theorem beg_succ (S : List UInt8) (n : Nat) : begL S (n + 1) = endL S n + 1 := by unfold begL; rw [if_neg (by omega)]; rfl
theorem beg_ends {S : List UInt8} {n : Nat} (h : n < countL S) : (endsTo S (begL S n)).length = n := by
  cases n with
  | zero => rw [beg_zero]; rfl
  | succ n =>
    obtain ⟨h1, h2, h3⟩ := ends_inner (n := n) h
    rw [beg_succ, endsTo_one h1, List.length_append, h3]; rfl
theorem beg_le {S : List UInt8} {n : Nat} (h : n < countL S) : begL S n ≤ S.length := by
  cases n with
  | zero => rw [beg_zero]; omega
  | succ n =>
    obtain ⟨h1, h2, h3⟩ := ends_inner (n := n) h
    rw [beg_succ]; omega
theorem end_le {S : List UInt8} {n : Nat} (h : n < countL S) : endL S n ≤ S.length := by
  by_cases h1 : n + 1 < countL S
  · have := (ends_inner h1).2.1; omega
  · rw [ends_last (by omega)]; exact Nat.le_refl _
theorem end_is {S : List UInt8} {n : Nat} (h : n < countL S) : endL S n = S.length ∨ S[endL S n]? = some 10 := by
  by_cases h1 : n + 1 < countL S
  · exact .inr (ends_inner h1).1
  · exact .inl (ends_last (by omega))
/-- a place lies in the line of which number there are line ends before it -/
theorem place_line {S : List UInt8} {a : Nat} (ha : a ≤ S.length) : (endsTo S a).length < countL S ∧ begL S (endsTo S a).length ≤ a ∧ a ≤ endL S (endsTo S a).length := by
  have h0 := endsTo_mono S ha
  have hlt : (endsTo S a).length < countL S := by unfold countL; omega
  refine ⟨hlt, ?_, ?_⟩
  · cases hn : (endsTo S a).length with
    | zero => rw [beg_zero]; omega
    | succ n =>
      rw [hn] at hlt
      obtain ⟨h1, h2, h3⟩ := ends_inner (n := n) hlt
      rw [beg_succ]
      rcases Nat.lt_or_ge (endL S n) a with h | h
      · omega
      · have := endsTo_mono S h; omega
  · by_cases h1 : (endsTo S a).length + 1 < countL S
    · obtain ⟨h1, h2, h3⟩ := ends_inner h1
      rcases Nat.lt_or_ge (endL S (endsTo S a).length) a with h | h
      · have := endsTo_mono S h
        rw [endsTo_one h1, List.length_append, h3] at this
        simp at this
        omega
      · exact h
    · rw [ends_last (by omega)]; exact ha
theorem beg_end {S : List UInt8} {n : Nat} (h : n < countL S) : begL S n ≤ endL S n := by
  have := (place_line (beg_le h)).2.2
  rwa [beg_ends h] at this
/-- within a line there is no line end -/
theorem line_clear {S : List UInt8} {n x : Nat} (h : n < countL S) (h1 : begL S n ≤ x) (h2 : x < endL S n) : S[x]? ≠ some 10 := by
  intro h10
  have a1 := endsTo_mono S h1
  rw [beg_ends h] at a1
  have a2 := endsTo_mono S (show x + 1 ≤ endL S n by omega)
  rw [endsTo_one h10, List.length_append] at a2
  have a3 : (endsTo S (endL S n)).length ≤ n := by
    by_cases hl : n + 1 < countL S
    · rw [(ends_inner hl).2.2]; exact Nat.le_refl _
    · rw [ends_last (by omega)]; unfold countL at *; omega
  simp at a2; omega

/-- the line of a number -/
def lineL (S : List UInt8) (n : Nat) : List UInt8 := (S.drop (begL S n)).take (endL S n - begL S n)
theorem lines_drop {S : List UInt8} {n : Nat} (h : n + 1 < countL S) : linesOf (S.take (endL S n)) = (linesOf S).take (n + 1) ∧ linesOf (S.drop (endL S n + 1)) = (linesOf S).drop (n + 1) ∧ (S.take (endL S n + 1) = S.take (endL S n) ++ [10]) := by
  obtain ⟨h1, h2, h3⟩ := ends_inner h
  have hg : S[endL S n] = 10 := by rw [List.getElem?_eq_getElem h2] at h1; exact Option.some.inj h1
  have hs : S = S.take (endL S n) ++ 10 :: S.drop (endL S n + 1) := by
    conv => lhs; rw [← List.take_append_drop (endL S n) S, List.drop_eq_getElem_cons h2, hg]
  have hl := linesOf_app (S.take (endL S n)) (S.drop (endL S n + 1))
  rw [← hs] at hl
  have hlen := linesOf_len (S.take (endL S n))
  rw [← endsTo_count, h3] at hlen
  refine ⟨?_, ?_, ?_⟩
  · rw [hl, List.take_left' hlen]
  · rw [hl, List.drop_left' hlen]
  · rw [List.take_succ_eq_append_getElem h2, hg]
theorem lines_from {S : List UInt8} {n : Nat} (h : n < countL S) : linesOf (S.drop (begL S n)) = (linesOf S).drop n := by
  cases n with
  | zero => rw [beg_zero]; rfl
  | succ n => rw [beg_succ]; exact (lines_drop h).2.1
theorem lineL_get {S : List UInt8} {n : Nat} (h : n < countL S) : (linesOf S)[n]? = some (lineL S n) := by
  have h1 := lines_from h
  have h2 : (linesOf (S.drop (begL S n))).headD [] = lineL S n := by
    refine linesOf_head _ _ (fun x hx => ?_) ?_
    · rw [List.getElem?_drop]
      exact line_clear h (by omega) (by omega)
    · have hb := beg_end h
      rw [List.getElem?_drop, List.length_drop, show begL S n + (endL S n - begL S n) = endL S n by omega]
      rcases end_is h with h | h
      · left; omega
      · exact .inr h
  rw [h1] at h2
  have hl : n < (linesOf S).length := by rw [linesOf_len, ← countL_count]; exact h
  rw [List.drop_eq_getElem_cons hl, List.headD_cons] at h2
  rw [List.getElem?_eq_getElem hl, h2]
theorem linesOf_count (S : List UInt8) : (linesOf S).length = countL S := by rw [linesOf_len, countL_count]
end Go.Proofs.YtgpmfkedcoiopaaGreatDoor

/-
  A contract of the document's own answers, layer 2: Class.
-/
namespace Go.Proofs.YtgpmfkedcoiopaaGreatDoor
open Go.RowKit

/-- the class of a rune -/
def classL (r : Nat) : Nat := if r = 32 ∨ r = 9 then 0 else if r = 10 then 3 else if (48 ≤ r ∧ r ≤ 57) ∨ (97 ≤ r ∧ r ≤ 122) ∨ (65 ≤ r ∧ r ≤ 90) ∨ r = 95 then 1 else if 128 ≤ r ∧ r ≠ 65533 then 1 else 2

set_option maxRecDepth 10000000 in
set_option maxHeartbeats 4000000 in
theorem refClass_any (r : Nat) (hr : r ≤ 1114111) (w : World) : Calls Tryz.prog 113 #[.int .i64 (r : Nat)] w fun e w' => e = .returned (.int .i64 (classL r : Nat)) ∧ w = w' := by
  go_enter Tryz.func113, Tryz.ntmps113
  go_wp2
  all_goals
    (try simp only [beq_iff_eq, bne_iff_ne, beq_eq_false_iff_ne, bne_eq_false_iff_eq, ne_eq] at *)
    go_ret
    first
      | (exfalso; omega)
      | exact ⟨congrArg (fun n : Nat => Ending.returned (.int .i64 (n : Int))) (show (0 : Nat) = classL r by unfold classL; (repeat (first | rw [if_pos (by omega)] | rw [if_neg (by omega)]))), rfl⟩
      | exact ⟨congrArg (fun n : Nat => Ending.returned (.int .i64 (n : Int))) (show (3 : Nat) = classL r by unfold classL; (repeat (first | rw [if_pos (by omega)] | rw [if_neg (by omega)]))), rfl⟩
      | exact ⟨congrArg (fun n : Nat => Ending.returned (.int .i64 (n : Int))) (show (1 : Nat) = classL r by unfold classL; (repeat (first | rw [if_pos (by omega)] | rw [if_neg (by omega)]))), rfl⟩
      | exact ⟨congrArg (fun n : Nat => Ending.returned (.int .i64 (n : Int))) (show (2 : Nat) = classL r by unfold classL; (repeat (first | rw [if_pos (by omega)] | rw [if_neg (by omega)]))), rfl⟩
end Go.Proofs.YtgpmfkedcoiopaaGreatDoor

/-
  The signs of a line: layer 6. No program here.
-/
namespace Go.Proofs.YtgpmfkedcoiopaaGreatDoor
open Go.RowKit

theorem dec_take {t : List UInt8} {k : Nat} (ht : t ≠ []) (hk : (dec t).2 ≤ k) : dec (t.take k) = dec t := by
  have hp := (dec_pos t).1
  have hne : t.take k ≠ [] := by
    have := List.length_pos_iff.2 ht
    intro h
    have := congrArg List.length h
    rw [List.length_take, List.length_nil] at this
    omega
  cases hb : broken (dec (t.take k)) with
  | false =>
    have h := dec_more hne hb (t.drop k)
    rw [List.take_append_drop] at h
    exact h.symm
  | true =>
    cases hc : broken (dec t) with
    | true =>
      unfold broken at hb hc
      simp only [decide_eq_true_eq] at hb hc
      exact Prod.ext (hb.1.trans hc.1.symm) (hb.2.trans hc.2.symm)
    | false =>
      obtain ⟨h1, h2, h3⟩ := dec_whole ht hc
      have e : t.take k = enc (dec t).1 ++ (t.take k).drop (dec t).2 := by
        rw [h3]
        conv => lhs; rw [← List.take_append_drop (dec t).2 (t.take k)]
        rw [List.take_take, Nat.min_eq_left hk]
      have h4 := dec_enc (dec t).1 h1 ((t.take k).drop (dec t).2)
      rw [← e] at h4
      rw [h4, enc_broken _ _ rfl] at hb
      cases hb
/-- the signs of a text's beginning, cut between two signs -/
theorem chars_take : ∀ (mid : List (Nat × Nat)) (t : List UInt8) (rest : List (Nat × Nat)), chars t = mid ++ rest → chars (t.take (width mid)) = mid := by
  intro mid
  induction mid with
  | nil => intro t rest _; simp [width, chars_nil]
  | cons x mid ih =>
    intro t rest h
    have ht : t ≠ [] := by intro h0; subst h0; rw [chars_nil] at h; cases h
    rw [chars_cons ht, List.cons_append, List.cons.injEq] at h
    obtain ⟨rfl, h⟩ := h
    have hw : width (dec t :: mid) = (dec t).2 + width mid := by simp [width]
    have hp := (dec_pos t).1
    have hne : t.take (width (dec t :: mid)) ≠ [] := by
      have := List.length_pos_iff.2 ht
      intro h
      have := congrArg List.length h
      rw [List.length_take, hw, List.length_nil] at this
      omega
    rw [chars_cons hne, dec_take ht (by omega), hw, List.drop_take, Nat.add_sub_cancel_left, ih _ _ h]
theorem Read.slice {S : List UInt8} {done mid : List (Nat × Nat)} {a b : Nat} (h : Read S done a) (h2 : Read S (done ++ mid) b) : chars ((S.drop a).take (b - a)) = mid := by
  have e : chars (S.drop a) = mid ++ chars (S.drop b) := by
    have := h.all.symm.trans h2.all
    rw [List.append_assoc] at this
    exact List.append_cancel_left this
  have hw : b - a = width mid := by rw [← h2.wide, ← h.wide, width_append]; omega
  rw [hw]
  exact chars_take mid _ _ e
theorem read_take {S : List UInt8} {i : Nat} (h : i ≤ (chars S).length) : Read S ((chars S).take i) (width ((chars S).take i)) := by
  obtain ⟨j, hj⟩ := which_ex (chars S) ((width ((chars S).take i) : Nat) : Int)
  have key : ∀ i, i ≤ (chars S).length → Read S ((chars S).take i) (width ((chars S).take i)) := by
    intro i
    induction i with
    | zero => intro _; simpa [width] using Read.start S
    | succ i ih =>
      intro hi
      have hr := ih (by omega)
      have hl : ((chars S).take i).length = i := by rw [List.length_take]; omega
      have hlt : width ((chars S).take i) < S.length := by
        rcases Nat.lt_or_ge (width ((chars S).take i)) S.length with h | h
        · exact h
        · have := congrArg List.length (hr.end_ h); omega
      have h1 := hr.step hlt
      have h2 := hr.take_succ hlt
      have h3 := hr.next_width hlt
      rw [hl] at h2 h3
      rw [h3, h2]
      exact h1
  exact key i h
/-- a sign's beginning lies in that sign -/
theorem which_self {S : List UInt8} {i : Nat} (hi : i ≤ (chars S).length) : Which (chars S) ((width ((chars S).take i) : Nat) : Int) i := by
  rcases Nat.lt_or_ge i (chars S).length with h | h
  · have hs := width_succ (chars S) i h
    have := (chars_bound S _ (List.getElem_mem h)).2.1
    exact which_in h (Int.le_refl _) (by rw [hs]; omega)
  · obtain rfl : i = (chars S).length := by omega
    exact which_behind S (by rw [width_all]; exact Int.le_refl _)
/-- a line end is a sign of its own -/
theorem nl_sign {S : List UInt8} {p : Nat} (h : S[p]? = some 10) : ∃ i, i < (chars S).length ∧ width ((chars S).take i) = p ∧ width ((chars S).take (i + 1)) = p + 1 := by
  have hp : p < S.length := by
    rcases Nat.lt_or_ge p S.length with hp | hp
    · exact hp
    · rw [List.getElem?_eq_none hp] at h; cases h
  obtain ⟨i, hi⟩ := which_ex (chars S) ((p : Nat) : Int)
  obtain ⟨h1, h2, h3⟩ := hi.here_bytes hp
  have hD : S.getD p 0 = 10 := by rw [List.getD_eq_getElem?_getD, h]; rfl
  have e : width ((chars S).take i) = p := by
    rcases Nat.lt_or_ge (width ((chars S).take i)) p with hl | hl
    · have := dec_inner (t := S.drop (width ((chars S).take i))) (k := p - width ((chars S).take i)) (by omega) (by omega)
      rw [getD_drop, show width ((chars S).take i) + (p - width ((chars S).take i)) = p by omega, hD] at this
      exact absurd this (by decide)
    · omega
  refine ⟨i, h1, e, ?_⟩
  have h4 := (read_take (S := S) (i := i) (by omega)).next_width (by omega)
  have hlen : ((chars S).take i).length = i := by rw [List.length_take]; omega
  rw [hlen, e] at h4
  have h5 : (dec (S.drop p)).2 = 1 := by
    have hd : (S.drop p).getD 0 0 = 10 := by rw [getD_drop, Nat.add_zero, hD]
    simp only [dec, hd]
    rfl
  rw [h4, h5]
theorem startsAt_mem {l : List (Nat × Nat)} (hl : ∀ x ∈ l, 1 ≤ x.2) : ∀ {a x : Nat}, x ∈ startsAt a l → a ≤ x ∧ x < a + width l := by
  induction l with
  | nil => intro a x h; simp [startsAt] at h
  | cons y l ih =>
    intro a x h
    have hw : width (y :: l) = y.2 + width l := by simp [width]
    have hy := hl y (by simp)
    rcases List.mem_cons.1 h with rfl | h
    · omega
    · have := ih (fun z hz => hl z (by simp [hz])) h
      omega
theorem filter_all {α : Type} {l : List α} {p : α → Bool} (h : ∀ x ∈ l, p x = true) : l.filter p = l := List.filter_eq_self.2 h
theorem filter_no {α : Type} {l : List α} {p : α → Bool} (h : ∀ x ∈ l, p x = false) : l.filter p = [] := List.filter_eq_nil_iff.2 fun x hx => by rw [h x hx]; decide
theorem chars_wide {S : List UInt8} : ∀ x ∈ chars S, 1 ≤ x.2 := fun x hx => (chars_bound S x hx).2.1

/-- the signs of a line -/
def signsL (S : List UInt8) (n : Nat) : List (Nat × Nat) := chars (lineL S n)
theorem line_signs {S : List UInt8} {n : Nat} (h : n < countL S) :
    ∃ A C, chars S = A ++ signsL S n ++ C ∧ width A = begL S n ∧ width A + width (signsL S n) = endL S n ∧ startsL S n = startsAt (begL S n) (signsL S n) := by
  obtain ⟨i0, hi0, e0⟩ : ∃ i, i ≤ (chars S).length ∧ width ((chars S).take i) = begL S n := by
    cases n with
    | zero => exact ⟨0, by omega, by rw [beg_zero]; simp [width]⟩
    | succ n =>
      obtain ⟨i, h1, _, h3⟩ := nl_sign (ends_inner (n := n) h).1
      exact ⟨i + 1, h1, by rw [h3, beg_succ]⟩
  obtain ⟨i1, hi1, e1⟩ : ∃ i, i ≤ (chars S).length ∧ width ((chars S).take i) = endL S n := by
    rcases end_is h with he | he
    · exact ⟨(chars S).length, Nat.le_refl _, by rw [width_all, he]⟩
    · obtain ⟨i, h1, h2, _⟩ := nl_sign he
      exact ⟨i, by omega, h2⟩
  have hbe := beg_end h
  have h01 : i0 ≤ i1 := by
    rcases Nat.lt_or_ge i1 i0 with hx | hx
    · have := width_take_mono (chars S) (show i1 + 1 ≤ i0 by omega)
      rw [width_succ _ _ (by omega)] at this
      have := chars_wide (S := S) _ (List.getElem_mem (show i1 < (chars S).length by omega))
      omega
    · exact hx
  have r0 := read_take hi0
  have r1 := read_take hi1
  have es : (chars S).take i1 = (chars S).take i0 ++ ((chars S).drop i0).take (i1 - i0) := by
    rw [← List.take_add]; congr 1; omega
  have hB : signsL S n = ((chars S).drop i0).take (i1 - i0) := by
    rw [es] at r1
    have := r0.slice r1
    rw [← es, e0, e1] at this
    exact this
  have eA : chars S = (chars S).take i0 ++ signsL S n ++ (chars S).drop i1 := by
    rw [hB, ← es, List.take_append_drop]
  have e2 : width ((chars S).take i0) + width (signsL S n) = endL S n := by rw [hB, ← width_append, ← es, e1]
  refine ⟨_, _, eA, e0, e2, ?_⟩
  have hx : ∀ x, inLine S (n : Int) x = (decide (begL S n ≤ x) && decide (x < endL S n)) := fun x => by
    unfold inLine; rw [boundsL_nat h]
  have hin : ∀ x ∈ (chars S).take i0, 1 ≤ x.2 := fun x hx => chars_wide x (List.mem_of_mem_take hx)
  have hin2 : ∀ x ∈ signsL S n, 1 ≤ x.2 := chars_wide
  have hin3 : ∀ x ∈ (chars S).drop i1, 1 ≤ x.2 := fun x hx => chars_wide x (List.mem_of_mem_drop hx)
  unfold startsL
  conv => lhs; rw [eA]
  rw [startsAt_append, startsAt_append, List.filter_append, List.filter_append, width_append, e2, Nat.zero_add, Nat.zero_add, e0]
  rw [filter_no (l := startsAt 0 _), filter_all (l := startsAt (begL S n) _), filter_no (l := startsAt (endL S n) _), List.nil_append, List.append_nil]
  · intro x hm
    have := startsAt_mem hin3 hm
    rw [hx]; simp; omega
  · intro x hm
    have := startsAt_mem hin2 hm
    rw [hx]; simp; omega
  · intro x hm
    have := startsAt_mem hin hm
    rw [hx]; simp; omega
theorem startsAt_nth (a : Nat) (l : List (Nat × Nat)) (k : Nat) (h : k < l.length) : (startsAt a l)[k]? = some (a + width (l.take k)) := by
  induction l generalizing a k with
  | nil => simp at h
  | cons x l ih =>
    cases k with
    | zero => simp [startsAt, width]
    | succ k =>
      simp only [startsAt, List.getElem?_cons_succ, List.take_succ_cons]
      rw [ih (a + x.2) k (by simpa using h)]
      simp [width]; omega
theorem startsL_nth {S : List UInt8} {n : Nat} (h : n < countL S) {k : Nat} (hk : k < (signsL S n).length) : (startsL S (n : Int)).getD k 0 = begL S n + width ((signsL S n).take k) := by
  obtain ⟨A, C, h1, h2, h3, h4⟩ := line_signs h
  rw [h4, List.getD_eq_getElem?_getD, startsAt_nth _ _ _ hk]; rfl
theorem startsL_count {S : List UInt8} {n : Nat} (h : n < countL S) : (startsL S (n : Int)).length = (signsL S n).length := by
  obtain ⟨A, C, h1, h2, h3, h4⟩ := line_signs h
  rw [h4, startsAt_len]
/-- a sign of a line, as a sign of the text -/
theorem sign_of {S : List UInt8} {n : Nat} (h : n < countL S) {k : Nat} (hk : k < (signsL S n).length) {i : Nat} (hi : Which (chars S) ((begL S n + width ((signsL S n).take k) : Nat) : Int) i) :
    (chars S).getD i (0, 0) = (signsL S n)[k] ∧ width ((chars S).take i) = begL S n + width ((signsL S n).take k) ∧ width ((chars S).take (i + 1)) = begL S n + width ((signsL S n).take (k + 1)) := by
  obtain ⟨A, C, h1, h2, h3, h4⟩ := line_signs h
  generalize signsL S n = B at *
  have hlen : A.length + k < (chars S).length := by rw [h1]; simp; omega
  have e1 : (chars S).take (A.length + k) = A ++ B.take k := by
    rw [h1, List.append_assoc, List.take_length_add_append, List.take_append_of_le_length (by omega)]
  have e2 : (chars S).take (A.length + k + 1) = A ++ B.take (k + 1) := by
    rw [h1, List.append_assoc, Nat.add_assoc, List.take_length_add_append, List.take_append_of_le_length (by omega)]
  have w1 : width ((chars S).take (A.length + k)) = begL S n + width (B.take k) := by rw [e1, width_append, h2]
  have w2 : width ((chars S).take (A.length + k + 1)) = begL S n + width (B.take (k + 1)) := by rw [e2, width_append, h2]
  have hw : 1 ≤ B[k].2 := chars_wide (S := S) _ (by rw [h1]; simp)
  have hs := width_succ B k hk
  obtain rfl : i = A.length + k := hi.unique (which_in hlen (by rw [w1]; exact Int.le_refl _) (by rw [w2]; omega))
  refine ⟨?_, w1, w2⟩
  rw [h1, List.getD_eq_getElem?_getD, List.append_assoc, List.getElem?_append_right (by omega), Nat.add_sub_cancel_left, List.getElem?_append_left hk, List.getElem?_eq_getElem hk]; rfl

/-- the place of a column -/
theorem placeL_eq {S : List UInt8} {n col : Int} : placeL S n col = begL S (broughtL S n) + width ((signsL S (broughtL S n)).take (min col.toNat ((signsL S (broughtL S n)).length - 1))) := by
  have hb : broughtL S n < countL S := by have := countL_pos S; unfold broughtL; omega
  unfold placeL lastL
  generalize broughtL S n = k at *
  have hc := startsL_count hb
  by_cases h1 : col.toNat < (startsL S (k : Int)).length
  · rw [if_pos h1, startsL_nth hb (by omega), Nat.min_eq_left (by omega)]
  · rw [if_neg h1]
    by_cases h2 : startsL S (k : Int) = []
    · rw [if_pos h2, boundsL_nat hb]
      rw [h2] at hc
      have : signsL S k = [] := List.eq_nil_of_length_eq_zero (by simpa using hc.symm)
      rw [this]; simp [width]
    · have := List.length_pos_iff.2 h2
      rw [if_neg h2, startsL_nth hb (by omega), Nat.min_eq_right (by omega), hc]
theorem lastL_eq {S : List UInt8} {n : Nat} (hb : n < countL S) : lastL S (n : Int) = begL S n + width ((signsL S n).take ((signsL S n).length - 1)) := by
  have hc := startsL_count hb
  unfold lastL
  by_cases h2 : startsL S (n : Int) = []
  · rw [if_pos h2, boundsL_nat hb]
    rw [h2] at hc
    have : signsL S n = [] := List.eq_nil_of_length_eq_zero (by simpa using hc.symm)
    rw [this]; simp [width]
  · have := List.length_pos_iff.2 h2
    rw [if_neg h2, startsL_nth hb (by omega), hc]
/-- the first sign of a line that is not blank, or the last -/
def firstJ (B : List (Nat × Nat)) : Nat := min (B.findIdx fun x => classL x.1 != 0) (B.length - 1)
def firstL (S : List UInt8) (n : Int) : Nat := begL S (broughtL S n) + width ((signsL S (broughtL S n)).take (firstJ (signsL S (broughtL S n))))
theorem firstJ_hit {B : List (Nat × Nat)} {j : Nat} (hj : j < B.length) (h : classL B[j].1 ≠ 0) (hb : ∀ i (hi : i < j), classL (B[i]'(by omega)).1 = 0) : firstJ B = j := by
  have e : B.findIdx (fun x => classL x.1 != 0) = j := by
    rw [List.findIdx_eq hj]
    exact ⟨by simpa using h, fun i hi => by simpa using hb i hi⟩
  unfold firstJ; rw [e]; omega
theorem firstJ_none {B : List (Nat × Nat)} (hb : ∀ i (hi : i < B.length), classL B[i].1 = 0) : firstJ B = B.length - 1 := by
  have e : B.findIdx (fun x => classL x.1 != 0) = B.length := by
    rw [List.findIdx_eq_length]
    intro x hx
    obtain ⟨i, hi, rfl⟩ := List.getElem_of_mem hx
    simpa using hb i hi
  unfold firstJ; rw [e]; omega

end Go.Proofs.YtgpmfkedcoiopaaGreatDoor

/-
  Contracts of the document's own answers, layer 6: First.
-/
namespace Go.Proofs.YtgpmfkedcoiopaaGreatDoor
open Go.RowKit

theorem firstL_of {S : List UInt8} {n : Int} {k j : Nat} (hk : broughtL S n = k) (hj : firstJ (signsL S k) = j) : firstL S n = begL S k + width ((signsL S k).take j) := by
  unfold firstL; rw [hk, hj]
theorem brought_lt (S : List UInt8) (n : Int) : broughtL S n < countL S := by have := countL_pos S; unfold broughtL; omega

set_option maxHeartbeats 2000000 in
theorem refFirst_any (S : List UInt8) (hs : S.length ≤ 1000000) (n : Int) (w : World) :
    Calls Tryz.prog 110 #[.string ⟨S.toArray⟩, .int .i64 n] w fun e w' => e = .returned (.int .i64 (firstL S n : Nat)) ∧ Below w.heap.size w w' := by
  have hb := brought_lt S n
  obtain ⟨q, hq⟩ : ∃ q, broughtL S n = q := ⟨_, rfl⟩
  have HQ := Lib.hid hq
  have hsl := startsL_len S (broughtL S n)
  rw [hq] at hb hsl
  have HN := Lib.hid (fun k (hk : k < (signsL S q).length) => startsL_nth hb hk)
  have HC := Lib.hid (startsL_count hb)
  have HL := Lib.hid (lastL_eq hb)
  have HS := Lib.hid (fun (k : Nat) (hk : k < (signsL S q).length) (i : Nat) hi => (sign_of hb hk (i := i) hi).1)
  go_enter Tryz.func110, Tryz.ntmps110
  go_upto_region 3 with (first
    | (go_at_call 158; refine (refBrought_any S hs n _).mono ?_; rintro e w1 ⟨rfl, b1⟩; rw [HQ.out])
    | (go_at_call 159; refine (refLStarts_any S hs q _).mono ?_; rintro e w2 ⟨A, c, rfl, hown, b2⟩))
  have z1 := b1.size
  have z2 := b2.size
  have HR := Lib.hid (Row.of_own hown)
  have B2 := Lib.hid (b1.trans (b2.mono z1))
  have HLL : Hid ((startsL S (q : Int)).length = (signsL S q).length) := HC.out
  generalize startsL S (q : Int) = l at *
  clear hown b1 b2
  go_wp2_with fail
  go_loopw [7] (fun j wr => ∃ k : Nat, k ≤ l.length ∧ j = .int .i64 k ∧ (∀ i (hi : i < (signsL S q).length), i < k → classL ((signsL S q)[i]).1 = 0) ∧ Below w2.heap.size w2 wr) (fun j _ => l.length - (intOf j).toNat)
  case atStart => exact ⟨0, Nat.zero_le _, rfl, fun i _ h => absurd h (by omega), Below.refl _ _⟩
  case round =>
    obtain ⟨k, hk, rfl, hcl, hb2⟩ := hrel
    have HCL := Lib.hid hcl
    clear hcl
    by_cases hlt : k < l.length
    · obtain ⟨ad, rfl, hbl, c0⟩ := (HR.out.below hb2).map_at hlt
      have hkB : k < (signsL S q).length := by rw [← HLL.out]; exact hlt
      have HX : Hid (l[k] = begL S q + width ((signsL S q).take k)) := by
        have := HN.out k hkB
        show l[k] = _
        rw [← this, List.getD_eq_getElem?_getD, List.getElem?_eq_getElem hlt]; rfl
      unfold intn at c0
      have HR2 := Lib.hid (HR.out.below hb2)
      have hr : ((signsL S q)[k]).1 ≤ 1114111 := (chars_bound (lineL S q) _ (List.getElem_mem hkB)).1
      generalize l[k] = x at *
      generalize hy : ((signsL S q)[k]).1 = y at *
      have HY := Lib.hid hy
      clear hy
      have hz := hb2.size
      by_cases hcy : classL y = 0
      · have hcy' : (((classL y : Nat) : Int) != 0) = false := by rw [hcy]; rfl
        go_wp2_with (first
          | (go_at_call 112; refine (refAt_any S hs (x : Int) _).mono ?_; rintro e w3 ⟨i, rfl, hi, b3⟩; rw [HX.out] at hi; rw [HS.out k hkB i hi, HY.out]; clear hi)
          | (go_at_call 113; refine (refClass_any y hr _).mono ?_; rintro e w4 ⟨rfl, rfl⟩))
        go_roundw
        case rel => exact ⟨k + 1, by omega, by go_num, fun i hi hik => by
          rcases Nat.lt_or_ge i k with h | h
          · exact HCL.out i hi h
          · obtain rfl : i = k := by omega
            rw [HY.out]; exact hcy, hb2.trans (b3.mono hz)⟩
        case measure => simp [intOf]; omega
      · have hcy' : (((classL y : Nat) : Int) != 0) = true := by simpa using hcy
        have HF : Hid (firstL S n = x) := by
          show firstL S n = x
          rw [HX.out]
          refine firstL_of HQ.out (firstJ_hit hkB (by rw [HY.out]; exact hcy) fun i hi => HCL.out i (by omega) hi)
        go_wp2_with (first
          | (go_at_call 112; refine (refAt_any S hs (x : Int) _).mono ?_; rintro e w3 ⟨i, rfl, hi, b3⟩; rw [HX.out] at hi; rw [HS.out k hkB i hi, HY.out]; clear hi; have c1 : w3.cell? (ad.add k) = some (.int .i64 (x : Int)) := (b3.cell (by rw [add_block]; omega)).trans c0)
          | (go_at_call 113; refine (refClass_any y hr _).mono ?_; rintro e w4 ⟨rfl, rfl⟩))
        go_ret
        exact ⟨by rw [HF.out]; rfl, B2.out.trans ((hb2.trans (b3.mono hz)).mono (Nat.le_trans z1 z2))⟩
    · have HF : Hid (firstL S n = lastL S (q : Int)) := by
        show firstL S n = lastL S (q : Int)
        have hlen := HLL.out
        rw [HL.out]
        exact firstL_of HQ.out (firstJ_none fun i hi => HCL.out i hi (by omega))
      have hz := hb2.size
      go_wp2_with (go_at_call 160; refine (refLast_any S hs (q : Int) _).mono ?_; rintro e w5 ⟨rfl, b5⟩)
      go_ret
      exact ⟨by rw [HF.out]; rfl, B2.out.trans ((hb2.trans (b5.mono hz)).mono (Nat.le_trans z1 z2))⟩
end Go.Proofs.YtgpmfkedcoiopaaGreatDoor

/-
  A text without some whole lines: layer 6. No program here.
-/
namespace Go.Proofs.YtgpmfkedcoiopaaGreatDoor
open Go.RowKit

/-- what lines are left -/
def leftL (S : List UInt8) (a b : Nat) : List (List UInt8) := if (linesOf S).take a ++ (linesOf S).drop (b + 1) = [] then [[]] else (linesOf S).take a ++ (linesOf S).drop (b + 1)
theorem beg_mono {S : List UInt8} {a b : Nat} (h : a ≤ b) (hb : b < countL S) : begL S a ≤ begL S b := by
  rcases Nat.lt_or_ge (begL S b) (begL S a) with hx | hx
  · have h1 := endsTo_mono S (show begL S b ≤ begL S a by omega)
    rw [beg_ends hb, beg_ends (by omega)] at h1
    obtain rfl : a = b := by omega
    exact Nat.le_refl _
  · exact hx
end Go.Proofs.YtgpmfkedcoiopaaGreatDoor

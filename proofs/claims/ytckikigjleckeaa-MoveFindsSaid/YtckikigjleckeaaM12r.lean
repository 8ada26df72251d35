/-
  Merged: MvMath, MvFind, MvWord, MvBegs, MvEnds, MvEmpt, MvLine, MvKind, MvPlain, MvSide, MvWrds, MvFnds, MvLns, MvTo.
-/
import Derived.Test.YtckikigjleckeaaWords
import Derived.Test.YtckikigjleckeaaGlyMoves
import Derived.Test.YtckikigjleckeaaLinClass
import Derived.Deep.DeepCutAuto
import Derived.Test.YtckikigjleckeaaLinBounds
import Derived.Test.YtckikigjleckeaaLinCol
import Derived.Test.YtckikigjleckeaaLinFirst
/-
  The nth of a list behind a place, or ahead of it: layer 12, as plain lists.
-/
namespace Go.Proofs.Ytckikigjleckeaa

theorem filt_cut {l : List Nat} {p : Nat → Bool} {k : Nat} (hk : k < l.length) : l.filter p = (l.take k).filter p ++ (if p l[k] = true then [l[k]] else []) ++ (l.drop (k + 1)).filter p := by
  have e : l.filter p = (l.take k ++ (l[k] :: l.drop (k + 1))).filter p := by rw [← List.drop_eq_getElem_cons hk, List.take_append_drop]
  rw [e, List.filter_append, List.append_assoc]
  congr 1
  split
  · next h => rw [List.filter_cons_of_pos h]; rfl
  · next h => rw [List.filter_cons_of_neg h]; rfl
theorem filt_take {l : List Nat} {p : Nat → Bool} {k : Nat} (hk : k < l.length) : ((l.take (k + 1)).filter p).length = ((l.take k).filter p).length + (if p l[k] = true then 1 else 0) := by
  rw [List.take_succ_eq_append_getElem hk, List.filter_append, List.length_append]
  congr 1
  split
  · next h => rw [List.filter_cons_of_pos h]; rfl
  · next h => rw [List.filter_cons_of_neg h]; rfl
theorem filt_drop {l : List Nat} {p : Nat → Bool} {k : Nat} (hk : k < l.length) : ((l.drop k).filter p).length = ((l.drop (k + 1)).filter p).length + (if p l[k] = true then 1 else 0) := by
  rw [List.drop_eq_getElem_cons hk]
  split
  · next h => rw [List.filter_cons_of_pos h]; rfl
  · next h => rw [List.filter_cons_of_neg h]; rfl
/-- the nth place behind one; none: there are not so many -/
def behindM (l : List Nat) (a n : Nat) : Option Nat := (l.filter fun x => decide (a < x))[n - 1]?
/-- the nth place ahead of one, nearest first -/
def aheadM (l : List Nat) (a n : Nat) : Option Nat := (l.filter fun x => decide (x < a)).reverse[n - 1]?
theorem behindM_hit {l : List Nat} {a n k : Nat} (hk : k < l.length) (h : a < l[k]) (hn : ((l.take k).filter fun x => decide (a < x)).length + 1 = n) : behindM l a n = some l[k] := by
  unfold behindM
  rw [filt_cut hk, if_pos (decide_eq_true h), ← hn, Nat.add_sub_cancel, List.append_assoc, List.getElem?_append_right (Nat.le_refl _), Nat.sub_self]
  rfl
theorem behindM_none {l : List Nat} {a n : Nat} (h : (l.filter fun x => decide (a < x)).length < n) : behindM l a n = none := List.getElem?_eq_none (by omega)
theorem aheadM_hit {l : List Nat} {a n k : Nat} (hk : k < l.length) (h : l[k] < a) (hn : ((l.drop (k + 1)).filter fun x => decide (x < a)).length + 1 = n) : aheadM l a n = some l[k] := by
  unfold aheadM
  rw [filt_cut hk, if_pos (decide_eq_true h), ← hn, Nat.add_sub_cancel, List.reverse_append, List.reverse_append, List.getElem?_append_right (by rw [List.length_reverse]; exact Nat.le_refl _), List.length_reverse, Nat.sub_self]
  rfl
theorem aheadM_none {l : List Nat} {a n : Nat} (h : (l.filter fun x => decide (x < a)).length < n) : aheadM l a n = none := List.getElem?_eq_none (by rw [List.length_reverse]; omega)
theorem behindM_mem {l : List Nat} {a n x : Nat} (h : behindM l a n = some x) : x ∈ l ∧ a < x := by
  have := List.mem_of_getElem? h
  rw [List.mem_filter] at this
  exact ⟨this.1, of_decide_eq_true this.2⟩
theorem aheadM_mem {l : List Nat} {a n x : Nat} (h : aheadM l a n = some x) : x ∈ l ∧ x < a := by
  have := List.mem_of_getElem? h
  rw [List.mem_reverse, List.mem_filter] at this
  exact ⟨this.1, of_decide_eq_true this.2⟩
end Go.Proofs.Ytckikigjleckeaa

/-
  The document's behind, ahead, or: layer 12.
-/
namespace Go.Proofs.Ytckikigjleckeaa
open Go.RowKit

/-- a place, or none -/
def GivesIB (w : World) (r : Option Nat) (e : Ending) (w' : World) : Prop := e = .returned (.tuple #[.int .i64 ((r.getD 0 : Nat) : Int), .bool r.isSome]) ∧ Below w.heap.size w w'
theorem intn_at {w : World} {B k : Nat} {A : Option Addr} {l : List Nat} (h : Row w B A (l.map intn)) (hk : k < l.length) : ∃ ad, A = some ad ∧ ad.block < B ∧ w.cell? (ad.add k) = some (.int .i64 (l[k] : Nat)) := h.map_at hk
set_option maxHeartbeats 1000000 in
theorem refMBehind_any (A : Option Addr) (c B : Nat) (l : List Nat) (hl : l.length ≤ 1000001) (a n : Nat) (hn : 1 ≤ n ∧ n ≤ 1000000) (w : World) (hB : B ≤ w.heap.size) (h : Row w B A (l.map intn)) :
    Calls Try.prog 24 #[.slice A l.length c, .int .i64 (a : Nat), .int .i64 (n : Nat)] w (GivesIB w (behindM l a n)) := by
  go_enter Try.func24, Try.ntmps24
  go_wp2_with fail
  go_loopw [2, 8] (fun s i wr => ∃ k : Nat, k ≤ l.length ∧ i = .int .i64 k ∧ ((l.take k).filter fun x => decide (a < x)).length < n ∧ s = .int .i64 ((n : Int) - (((l.take k).filter fun x => decide (a < x)).length : Nat)) ∧ Below w.heap.size w wr) (fun _ i _ => l.length - (intOf i).toNat)
  case atStart => exact ⟨0, Nat.zero_le _, rfl, by simp; omega, by simp, Below.refl _ _⟩
  case round =>
    obtain ⟨k, hk, rfl, hc, rfl, hb⟩ := hrel
    by_cases hlt : k < l.length
    · have hlt' : (k : Int) < (l.length : Int) := by omega
      have hk0 : (0 : Int) ≤ (k : Int) := by omega
      obtain ⟨ad, rfl, _, v0⟩ := intn_at (h.below (hb.mono hB)) hlt
      have HF := filt_take (l := l) (p := fun x => decide (a < x)) hlt
      by_cases hp : a < l[k]
      · have hp' : (a : Int) < ((l[k] : Nat) : Int) := by omega
        rw [if_pos (decide_eq_true hp)] at HF
        have HHit := Lib.hid (fun e => behindM_hit (n := n) hlt hp e)
        have HF2 := Lib.hid HF
        clear HF hp
        generalize ((l.take k).filter fun x => decide (a < x)).length = q at *
        generalize l[k] = x at *
        by_cases hq : q + 1 = n
        · have HR := Lib.hid (HHit.out hq)
          have hz : ((n : Int) - (q : Int) - 1 == 0) = true := by rw [beq_iff_eq]; omega
          clear HHit HF2 hq
          go_wp2_with fail
          go_ret2
          exact ⟨by rw [HR.out]; rfl, hb⟩
        · have hz : ((n : Int) - (q : Int) - 1 == 0) = false := by rw [beq_eq_false_iff_ne]; omega
          clear HHit
          go_wp2_with fail
          go_roundw
          case rel => exact ⟨k + 1, by omega, by go_num, by rw [HF2.out]; omega, by rw [HF2.out]; go_num, hb⟩
          case measure => simp [intOf]; omega
      · have hp' : ¬ (a : Int) < ((l[k] : Nat) : Int) := by omega
        rw [if_neg (by simpa using hp), Nat.add_zero] at HF
        have HF2 := Lib.hid HF
        clear HF
        generalize ((l.take k).filter fun x => decide (a < x)).length = q at *
        generalize l[k] = x at *
        go_wp2_with fail
        go_roundw
        case rel => exact ⟨k + 1, by omega, by go_num, by rw [HF2.out]; exact hc, by rw [HF2.out]; rfl, hb⟩
        case measure => simp [intOf]; omega
    · have hlt' : ¬ (k : Int) < (l.length : Int) := by omega
      have HR := Lib.hid (behindM_none (l := l) (a := a) (n := n) (by rw [List.take_of_length_le (by omega)] at hc; exact hc))
      clear hc
      generalize ((l.take k).filter fun x => decide (a < x)).length = q at *
      go_wp2_with fail
      go_ret2
      exact ⟨by rw [HR.out]; rfl, hb⟩
set_option maxHeartbeats 1000000 in
theorem refMAhead_any (A : Option Addr) (c B : Nat) (l : List Nat) (hl : l.length ≤ 1000001) (a n : Nat) (hn : 1 ≤ n ∧ n ≤ 1000000) (w : World) (hB : B ≤ w.heap.size) (h : Row w B A (l.map intn)) :
    Calls Try.prog 48 #[.slice A l.length c, .int .i64 (a : Nat), .int .i64 (n : Nat)] w (GivesIB w (aheadM l a n)) := by
  go_enter Try.func48, Try.ntmps48
  go_wp2_with fail
  go_loopw [2, 8] (fun s i wr => ∃ k : Nat, k ≤ l.length ∧ i = .int .i64 ((k : Int) - 1) ∧ ((l.drop k).filter fun x => decide (x < a)).length < n ∧ s = .int .i64 ((n : Int) - (((l.drop k).filter fun x => decide (x < a)).length : Nat)) ∧ Below w.heap.size w wr) (fun _ i _ => (intOf i + 1).toNat)
  case atStart => exact ⟨l.length, Nat.le_refl _, rfl, by simp; omega, by simp, Below.refl _ _⟩
  case round =>
    obtain ⟨k1, hk, rfl, hc, rfl, hb⟩ := hrel
    by_cases h0 : k1 = 0
    · subst h0
      have HR := Lib.hid (aheadM_none (l := l) (a := a) (n := n) (by rw [List.drop_zero] at hc; exact hc))
      clear hc
      generalize ((l.drop 0).filter fun x => decide (x < a)).length = q at *
      go_wp2_with fail
      go_ret2
      exact ⟨by rw [HR.out]; rfl, hb⟩
    · obtain ⟨k, rfl⟩ : ∃ k, k1 = k + 1 := ⟨k1 - 1, by omega⟩
      clear h0
      have hlt : k < l.length := by omega
      have hlt' : (k : Int) < (l.length : Int) := by omega
      have hk0 : (0 : Int) ≤ (k : Int) := by omega
      have hke : (((k + 1 : Nat) : Int) - 1) = (k : Int) := by omega
      rw [hke]
      clear hke
      obtain ⟨ad, rfl, _, v0⟩ := intn_at (h.below (hb.mono hB)) hlt
      have HF := filt_drop (l := l) (p := fun x => decide (x < a)) hlt
      by_cases hp : l[k] < a
      · have hp' : ((l[k] : Nat) : Int) < (a : Int) := by omega
        rw [if_pos (decide_eq_true hp)] at HF
        have HHit := Lib.hid (fun e => aheadM_hit (n := n) hlt hp e)
        have HF2 := Lib.hid HF
        clear HF hp
        generalize ((l.drop (k + 1)).filter fun x => decide (x < a)).length = q at *
        generalize l[k] = x at *
        by_cases hq : q + 1 = n
        · have HR := Lib.hid (HHit.out hq)
          have hz : ((n : Int) - (q : Int) - 1 == 0) = true := by rw [beq_iff_eq]; omega
          clear HHit HF2 hq
          go_wp2_with fail
          go_ret2
          exact ⟨by rw [HR.out]; rfl, hb⟩
        · have hz : ((n : Int) - (q : Int) - 1 == 0) = false := by rw [beq_eq_false_iff_ne]; omega
          clear HHit
          go_wp2_with fail
          go_roundw
          case rel => exact ⟨k, by omega, by go_num, by rw [HF2.out]; omega, by rw [HF2.out]; go_num, hb⟩
          case measure => simp [intOf]
      · have hp' : ¬ ((l[k] : Nat) : Int) < (a : Int) := by omega
        rw [if_neg (by simpa using hp), Nat.add_zero] at HF
        have HF2 := Lib.hid HF
        clear HF
        generalize ((l.drop (k + 1)).filter fun x => decide (x < a)).length = q at *
        generalize l[k] = x at *
        go_wp2_with fail
        go_roundw
        case rel => exact ⟨k, by omega, by go_num, by rw [HF2.out]; exact hc, by rw [HF2.out], hb⟩
        case measure => simp [intOf]
theorem refMOr_any (x y : Int) (b : Bool) (w : World) : Calls Try.prog 26 #[.int .i64 x, .bool b, .int .i64 y] w fun e w' => e = .returned (.int .i64 (if b = true then x else y)) ∧ w' = w := by
  cases b with
  | true =>
    go_enter Try.func26, Try.ntmps26
    go_wp2_with fail
    go_ret
    exact ⟨rfl, rfl⟩
  | false =>
    go_enter Try.func26, Try.ntmps26
    go_wp2_with fail
    go_ret
    exact ⟨rfl, rfl⟩
end Go.Proofs.Ytckikigjleckeaa

/-
  The document's class, word, Beginnings: layer 12.
-/
namespace Go.Proofs.Ytckikigjleckeaa
open Go.RowKit

def clsM (L : List (Nat × Nat)) (i : Nat) : Nat := classL (L.getD i (0, 0)).1
def wordM (L : List (Nat × Nat)) (i : Nat) : Bool := decide (clsM L i = 1) || decide (clsM L i = 2)
theorem refMClass_any (A : Option Addr) (c B : Nat) (L : List (Nat × Nat)) (hL : ∀ x ∈ L, x.1 ≤ 1114111) (_hn : L.length ≤ 1000000) (k : Nat) (hk : k < L.length) (w : World) (h : Row w B A (flat (offs 0 L))) :
    Calls Try.prog 53 #[.slice A L.length c, .int .i64 (k : Nat)] w fun e w' => e = .returned (.int .i64 (clsM L k : Nat)) ∧ w' = w := by
  obtain ⟨ad, rfl, _, c0, c1, c2, c3⟩ := sign_cells h hk
  have hr := hL _ (List.getElem_mem hk)
  have HC : Hid (clsM L k = classL L[k].1) := by
    show clsM L k = _
    unfold clsM
    rw [List.getD_eq_getElem?_getD, List.getElem?_eq_getElem hk]
    rfl
  generalize L[k].1 = x at *
  have hk' : (k : Int) < (L.length : Int) := by omega
  have hk0 : (0 : Int) ≤ (k : Int) := by omega
  clear hL h
  go_enter Try.func53, Try.ntmps53
  go_wp2_with (go_at_call 75; refine (refClass_any x hr _).mono ?_; rintro e w' ⟨rfl, hw⟩; subst hw)
  go_ret
  exact ⟨by rw [HC.out]; rfl, rfl⟩
theorem refMWord_any (A : Option Addr) (c B : Nat) (L : List (Nat × Nat)) (hL : ∀ x ∈ L, x.1 ≤ 1114111) (hn : L.length ≤ 1000000) (k : Nat) (hk : k < L.length) (w : World) (h : Row w B A (flat (offs 0 L))) :
    Calls Try.prog 52 #[.slice A L.length c, .int .i64 (k : Nat)] w fun e w' => e = .returned (.bool (wordM L k)) ∧ w' = w := by
  have K := Lib.hid (refMClass_any A c B L hL hn k hk w h)
  have HW : Hid (wordM L k = (decide (clsM L k = 1) || decide (clsM L k = 2))) := rfl
  clear hL h
  generalize clsM L k = q at *
  by_cases h1 : q = 1
  · have e1 : ((q : Int) == 1) = true := by simp [h1]
    have HE : Hid (wordM L k = true) := by rw [Hid, HW.out]; simp [h1]
    clear h1
    go_enter Try.func52, Try.ntmps52
    go_wp2_with (go_at_call 53; refine K.out.mono ?_; rintro e w' ⟨rfl, hw⟩; subst hw)
    go_ret
    exact ⟨by rw [HE.out]; rfl, rfl⟩
  · have e1 : ((q : Int) == 1) = false := by rw [beq_eq_false_iff_ne]; omega
    by_cases h2 : q = 2
    · have e2 : ((q : Int) == 2) = true := by simp [h2]
      have HE : Hid (wordM L k = true) := by rw [Hid, HW.out]; simp [h2]
      clear h1 h2
      go_enter Try.func52, Try.ntmps52
      go_wp2_with (go_at_call 53; refine K.out.mono ?_; rintro e w' ⟨rfl, hw⟩; subst hw)
      go_ret
      exact ⟨by rw [HE.out]; rfl, rfl⟩
    · have e2 : ((q : Int) == 2) = false := by rw [beq_eq_false_iff_ne]; omega
      have HE : Hid (wordM L k = false) := by rw [Hid, HW.out]; simp [h1, h2]
      clear h1 h2
      go_enter Try.func52, Try.ntmps52
      go_wp2_with (go_at_call 53; refine K.out.mono ?_; rintro e w' ⟨rfl, hw⟩; subst hw)
      go_ret
      exact ⟨by rw [HE.out]; rfl, rfl⟩
end Go.Proofs.Ytckikigjleckeaa

/-
  The document's Beginnings, Ends: layer 12.
-/
namespace Go.Proofs.Ytckikigjleckeaa
open Go.RowKit

def begQ (L : List (Nat × Nat)) (i : Nat) : Bool := wordM L i && (decide (i = 0) || decide (clsM L (i - 1) ≠ clsM L i))
/-- where signs of a kind begin, among the first so many -/
def placesTo (L : List (Nat × Nat)) (q : Nat → Bool) (k : Nat) : List Nat := ((List.range k).filter q).map fun i => width (L.take i)
theorem placesTo_zero (L : List (Nat × Nat)) (q : Nat → Bool) : placesTo L q 0 = [] := rfl
theorem placesTo_yes {L : List (Nat × Nat)} {q : Nat → Bool} {k : Nat} (h : q k = true) : placesTo L q (k + 1) = placesTo L q k ++ [width (L.take k)] := by
  unfold placesTo
  rw [List.range_succ, List.filter_append, List.filter_cons_of_pos h, List.map_append]
  rfl
theorem placesTo_no {L : List (Nat × Nat)} {q : Nat → Bool} {k : Nat} (h : q k = false) : placesTo L q (k + 1) = placesTo L q k := by
  unfold placesTo
  rw [List.range_succ, List.filter_append, List.filter_cons_of_neg (by rw [h]; decide), List.filter_nil, List.append_nil]
theorem placesTo_len (L : List (Nat × Nat)) (q : Nat → Bool) (k : Nat) : (placesTo L q k).length ≤ k := by
  unfold placesTo
  rw [List.length_map]
  exact Nat.le_trans (List.length_filter_le _ _) (by rw [List.length_range]; exact Nat.le_refl _)
/-- where words begin -/
def begsM (L : List (Nat × Nat)) : List Nat := placesTo L (begQ L) L.length

set_option maxHeartbeats 2000000 in
theorem refMBegs_any (S : List UInt8) (hS : S.length ≤ 1000000) (w : World) :
    Calls Try.prog 50 #[.string ⟨S.toArray⟩] w fun e w' => ∃ A c, e = .returned (.slice A (begsM (chars S)).length c) ∧ w'.ownsRow w.heap.size 3 1 (.slice A (begsM (chars S)).length c) (begsM (chars S)).length ((begsM (chars S)).map intn) ∧ Below w.heap.size w w' := by
  have HL := Lib.hid (fun x hx => (chars_bound S x hx).1)
  have HN := Lib.hid (chars_len S)
  go_enter Try.func50, Try.ntmps50
  go_upto_region 2 with (go_at_call 31; refine (refSigns_any S hS _).mono ?_; rintro e w1 ⟨A0, c0, rfl, hown0, hb0⟩)
  have HR := Lib.hid (Row.of_own hown0)
  have hN := HN.out
  generalize hL : chars S = L at *
  have HLS := Lib.hid hL
  clear hL
  clear hown0
  go_wp2_with fail
  go_loopw [4, 5] (fun v i wr => ∃ k : Nat, k ≤ L.length ∧ i = .int .i64 k ∧ wr.ownsRow w1.heap.size 3 1 v (placesTo L (begQ L) k).length ((placesTo L (begQ L) k).map intn) ∧ Below w1.heap.size w1 wr) (fun _ i _ => L.length - (intOf i).toNat)
  case atStart => exact ⟨0, Nat.zero_le _, rfl, World.ownsRow_nil _ _ _ _, Below.refl _ _⟩
  case round =>
    obtain ⟨k, hk, rfl, hown, hb⟩ := hrel
    have BB := Lib.hid hb
    have z := hb.size
    have hpl := placesTo_len L (begQ L) k
    obtain ⟨A1, c1, rfl⟩ := own_form hown
    by_cases hlt : k < L.length
    · have hlt' : (k : Int) < (L.length : Int) := by omega
      have hk0 : (0 : Int) ≤ (k : Int) := by omega
      have hrow := HR.out.below hb
      have KW := Lib.hid (refMWord_any A0 c0 w1.heap.size L HL.out (by omega) k hlt wr hrow)
      have KK := Lib.hid (refMClass_any A0 c0 w1.heap.size L HL.out (by omega) k hlt wr hrow)
      have KL := Lib.hid (fun j hj => refMClass_any A0 c0 w1.heap.size L HL.out (by omega) j hj wr hrow)
      obtain ⟨ad, rfl, _, v0, _, _, _⟩ := sign_cells hrow hlt
      rw [Nat.zero_add] at v0
      clear hb hrow
      cases hw : wordM L k with
      | false =>
        have HT := Lib.hid (placesTo_no (L := L) (q := begQ L) (k := k) (by unfold begQ; rw [hw]; rfl))
        have HWQ := Lib.hid hw
        clear hw
        generalize placesTo L (begQ L) k = D at *
        go_wp2_with (first
          | (go_at_call 52; refine KW.out.mono ?_; rw [HWQ.out]; rintro e w' ⟨rfl, hw⟩; subst hw))
        go_roundw
        case rel => exact ⟨k + 1, by omega, by go_num, by rw [HT.out]; exact hown, BB.out⟩
        case measure => simp [intOf]; omega
      | true =>
        have HWQ := Lib.hid hw
        by_cases h0 : k = 0
        · have HT := Lib.hid (placesTo_yes (L := L) (q := begQ L) (k := k) (by unfold begQ; rw [hw]; simp [h0]))
          have e0 : ((k : Int) == 0) = true := by simp [h0]
          clear hw h0
          generalize width (L.take k) = x at *
          generalize placesTo L (begQ L) k = D at *
          go_wp2_with (first
            | (go_at_call 52; refine KW.out.mono ?_; rw [HWQ.out]; rintro e w' ⟨rfl, hw⟩; subst hw)
            | (at_builtin; refine wpList_push rfl (.tmp 31) (.tmp 37) _ rfl w1.heap.size 3 _ 8 elt_int _ _ _ _ rfl hown (.int .i64 (x : Nat)) rfl rfl (by unfold maxLen; omega) (by omega) z ?_; intro v2 w2 hown2 hb2))
          go_roundw
          case rel => exact ⟨k + 1, by omega, by go_num, by rw [HT.out, List.length_append, List.map_append]; exact hown2, BB.out.trans hb2⟩
          case measure => simp [intOf]; omega
        · have e0 : ((k : Int) == 0) = false := by rw [beq_eq_false_iff_ne]; omega
          have KJ := Lib.hid (KL.out (k - 1) (by omega))
          rw [show (((k - 1 : Nat) : Int)) = (k : Int) - 1 by omega] at KJ
          have hkm : (1 : Int) ≤ (k : Int) := by omega
          have hku : (k : Int) ≤ 1000000 := by omega
          clear KL
          by_cases hc : clsM L (k - 1) = clsM L k
          · have HT := Lib.hid (placesTo_no (L := L) (q := begQ L) (k := k) (by unfold begQ; rw [hw]; simp [h0, hc]))
            have en : (((clsM L (k - 1) : Nat) : Int) != ((clsM L k : Nat) : Int)) = false := by rw [hc]; simp
            clear hw h0 hc
            generalize clsM L (k - 1) = q1 at *
            generalize clsM L k = q2 at *
            generalize placesTo L (begQ L) k = D at *
            go_wp2_with (first
              | (go_at_call 52; refine KW.out.mono ?_; rw [HWQ.out]; rintro e w' ⟨rfl, hw⟩; subst hw)
              | (go_at_call 53; (with_reducible refine KJ.out.mono ?_); rintro e w' ⟨rfl, hw⟩; subst hw)
              | (go_at_call 53; (with_reducible refine KK.out.mono ?_); rintro e w' ⟨rfl, hw⟩; subst hw))
            go_roundw
            case rel => exact ⟨k + 1, by omega, by go_num, by rw [HT.out]; exact hown, BB.out⟩
            case measure => simp [intOf]; omega
          · have HT := Lib.hid (placesTo_yes (L := L) (q := begQ L) (k := k) (by unfold begQ; rw [hw]; simp [h0, hc]))
            have en : (((clsM L (k - 1) : Nat) : Int) != ((clsM L k : Nat) : Int)) = true := by simp; omega
            clear hw h0 hc
            generalize clsM L (k - 1) = q1 at *
            generalize clsM L k = q2 at *
            generalize width (L.take k) = x at *
            generalize placesTo L (begQ L) k = D at *
            go_wp2_with (first
              | (go_at_call 52; refine KW.out.mono ?_; rw [HWQ.out]; rintro e w' ⟨rfl, hw⟩; subst hw)
              | (go_at_call 53; (with_reducible refine KJ.out.mono ?_); rintro e w' ⟨rfl, hw⟩; subst hw)
              | (go_at_call 53; (with_reducible refine KK.out.mono ?_); rintro e w' ⟨rfl, hw⟩; subst hw)
              | (at_builtin; refine wpList_push rfl (.tmp 31) (.tmp 37) _ rfl w1.heap.size 3 _ 8 elt_int _ _ _ _ rfl hown (.int .i64 (x : Nat)) rfl rfl (by unfold maxLen; omega) (by omega) z ?_; intro v2 w2 hown2 hb2))
            go_roundw
            case rel => exact ⟨k + 1, by omega, by go_num, by rw [HT.out, List.length_append, List.map_append]; exact hown2, BB.out.trans hb2⟩
            case measure => simp [intOf]; omega
    · have hlt' : ¬ (k : Int) < (L.length : Int) := by omega
      have HE : Hid (begsM L = placesTo L (begQ L) k) := by
        show begsM L = _
        unfold begsM
        rw [show L.length = k by omega]
      generalize placesTo L (begQ L) k = D at *
      go_wp2_with fail
      go_ret
      rw [HLS.out, HE.out]
      exact ⟨A1, c1, rfl, own_base hown hb0.size, hb0.trans (BB.out.mono hb0.size)⟩
end Go.Proofs.Ytckikigjleckeaa

/-
  The document's Ends: layer 12.
-/
namespace Go.Proofs.Ytckikigjleckeaa
open Go.RowKit

def endQ (L : List (Nat × Nat)) (i : Nat) : Bool := wordM L i && (decide (i + 1 = L.length) || decide (clsM L (i + 1) ≠ clsM L i))
/-- where the last signs of words begin -/
def endsM (L : List (Nat × Nat)) : List Nat := placesTo L (endQ L) L.length

set_option maxHeartbeats 2000000 in
theorem refMEnds_any (S : List UInt8) (hS : S.length ≤ 1000000) (w : World) :
    Calls Try.prog 25 #[.string ⟨S.toArray⟩] w fun e w' => ∃ A c, e = .returned (.slice A (endsM (chars S)).length c) ∧ w'.ownsRow w.heap.size 3 1 (.slice A (endsM (chars S)).length c) (endsM (chars S)).length ((endsM (chars S)).map intn) ∧ Below w.heap.size w w' := by
  have HL := Lib.hid (fun x hx => (chars_bound S x hx).1)
  have HN := Lib.hid (chars_len S)
  go_enter Try.func25, Try.ntmps25
  go_upto_region 2 with (go_at_call 31; refine (refSigns_any S hS _).mono ?_; rintro e w1 ⟨A0, c0, rfl, hown0, hb0⟩)
  have HR := Lib.hid (Row.of_own hown0)
  have hN := HN.out
  generalize hL : chars S = L at *
  have HLS := Lib.hid hL
  clear hL
  clear hown0
  go_wp2_with fail
  go_loopw [4, 5] (fun v i wr => ∃ k : Nat, k ≤ L.length ∧ i = .int .i64 k ∧ wr.ownsRow w1.heap.size 3 1 v (placesTo L (endQ L) k).length ((placesTo L (endQ L) k).map intn) ∧ Below w1.heap.size w1 wr) (fun _ i _ => L.length - (intOf i).toNat)
  case atStart => exact ⟨0, Nat.zero_le _, rfl, World.ownsRow_nil _ _ _ _, Below.refl _ _⟩
  case round =>
    obtain ⟨k, hk, rfl, hown, hb⟩ := hrel
    have BB := Lib.hid hb
    have z := hb.size
    have hpl := placesTo_len L (endQ L) k
    obtain ⟨A1, c1, rfl⟩ := own_form hown
    by_cases hlt : k < L.length
    · have hlt' : (k : Int) < (L.length : Int) := by omega
      have hk0 : (0 : Int) ≤ (k : Int) := by omega
      have hrow := HR.out.below hb
      have KW := Lib.hid (refMWord_any A0 c0 w1.heap.size L HL.out (by omega) k hlt wr hrow)
      have KK := Lib.hid (refMClass_any A0 c0 w1.heap.size L HL.out (by omega) k hlt wr hrow)
      have KL := Lib.hid (fun j hj => refMClass_any A0 c0 w1.heap.size L HL.out (by omega) j hj wr hrow)
      obtain ⟨ad, rfl, _, v0, _, _, _⟩ := sign_cells hrow hlt
      rw [Nat.zero_add] at v0
      clear hb hrow
      cases hw : wordM L k with
      | false =>
        have HT := Lib.hid (placesTo_no (L := L) (q := endQ L) (k := k) (by unfold endQ; rw [hw]; rfl))
        have HWQ := Lib.hid hw
        clear hw
        generalize placesTo L (endQ L) k = D at *
        go_wp2_with (first
          | (go_at_call 52; refine KW.out.mono ?_; rw [HWQ.out]; rintro e w' ⟨rfl, hw⟩; subst hw))
        go_roundw
        case rel => exact ⟨k + 1, by omega, by go_num, by rw [HT.out]; exact hown, BB.out⟩
        case measure => simp [intOf]; omega
      | true =>
        have HWQ := Lib.hid hw
        by_cases h0 : k + 1 = L.length
        · have HT := Lib.hid (placesTo_yes (L := L) (q := endQ L) (k := k) (by unfold endQ; rw [hw]; simp [h0]))
          have e0 : ((k : Int) + 1 == (L.length : Int)) = true := by rw [beq_iff_eq]; omega
          clear hw h0
          generalize width (L.take k) = x at *
          generalize placesTo L (endQ L) k = D at *
          go_wp2_with (first
            | (go_at_call 52; refine KW.out.mono ?_; rw [HWQ.out]; rintro e w' ⟨rfl, hw⟩; subst hw)
            | (at_builtin; refine wpList_push rfl (.tmp 34) (.tmp 40) _ rfl w1.heap.size 3 _ 8 elt_int _ _ _ _ rfl hown (.int .i64 (x : Nat)) rfl rfl (by unfold maxLen; omega) (by omega) z ?_; intro v2 w2 hown2 hb2))
          go_roundw
          case rel => exact ⟨k + 1, by omega, by go_num, by rw [HT.out, List.length_append, List.map_append]; exact hown2, BB.out.trans hb2⟩
          case measure => simp [intOf]; omega
        · have e0 : ((k : Int) + 1 == (L.length : Int)) = false := by rw [beq_eq_false_iff_ne]; omega
          have hkl : k + 1 < L.length := Nat.lt_of_le_of_ne hlt h0
          have KJ := Lib.hid (KL.out (k + 1) hkl)
          rw [show (((k + 1 : Nat) : Int)) = (k : Int) + 1 by omega] at KJ
          have hku : (k : Int) ≤ 1000000 := by omega
          clear KL
          by_cases hc : clsM L (k + 1) = clsM L k
          · have HT := Lib.hid (placesTo_no (L := L) (q := endQ L) (k := k) (by unfold endQ; rw [hw]; simp [h0, hc]))
            have en : (((clsM L (k + 1) : Nat) : Int) != ((clsM L k : Nat) : Int)) = false := by rw [hc]; simp
            clear hw h0 hc
            generalize clsM L (k + 1) = q1 at *
            generalize clsM L k = q2 at *
            generalize placesTo L (endQ L) k = D at *
            go_wp2_with (first
              | (go_at_call 52; refine KW.out.mono ?_; rw [HWQ.out]; rintro e w' ⟨rfl, hw⟩; subst hw)
              | (go_at_call 53; (with_reducible refine KJ.out.mono ?_); rintro e w' ⟨rfl, hw⟩; subst hw)
              | (go_at_call 53; (with_reducible refine KK.out.mono ?_); rintro e w' ⟨rfl, hw⟩; subst hw))
            go_roundw
            case rel => exact ⟨k + 1, by omega, by go_num, by rw [HT.out]; exact hown, BB.out⟩
            case measure => simp [intOf]; omega
          · have HT := Lib.hid (placesTo_yes (L := L) (q := endQ L) (k := k) (by unfold endQ; rw [hw]; simp [h0, hc]))
            have en : (((clsM L (k + 1) : Nat) : Int) != ((clsM L k : Nat) : Int)) = true := by simp; omega
            clear hw h0 hc
            generalize clsM L (k + 1) = q1 at *
            generalize clsM L k = q2 at *
            generalize width (L.take k) = x at *
            generalize placesTo L (endQ L) k = D at *
            go_wp2_with (first
              | (go_at_call 52; refine KW.out.mono ?_; rw [HWQ.out]; rintro e w' ⟨rfl, hw⟩; subst hw)
              | (go_at_call 53; (with_reducible refine KJ.out.mono ?_); rintro e w' ⟨rfl, hw⟩; subst hw)
              | (go_at_call 53; (with_reducible refine KK.out.mono ?_); rintro e w' ⟨rfl, hw⟩; subst hw)
              | (at_builtin; refine wpList_push rfl (.tmp 34) (.tmp 40) _ rfl w1.heap.size 3 _ 8 elt_int _ _ _ _ rfl hown (.int .i64 (x : Nat)) rfl rfl (by unfold maxLen; omega) (by omega) z ?_; intro v2 w2 hown2 hb2))
            go_roundw
            case rel => exact ⟨k + 1, by omega, by go_num, by rw [HT.out, List.length_append, List.map_append]; exact hown2, BB.out.trans hb2⟩
            case measure => simp [intOf]; omega
    · have hlt' : ¬ (k : Int) < (L.length : Int) := by omega
      have HE : Hid (endsM L = placesTo L (endQ L) k) := by
        show endsM L = _
        unfold endsM
        rw [show L.length = k by omega]
      generalize placesTo L (endQ L) k = D at *
      go_wp2_with fail
      go_ret
      rw [HLS.out, HE.out]
      exact ⟨A1, c1, rfl, own_base hown hb0.size, hb0.trans (BB.out.mono hb0.size)⟩
end Go.Proofs.Ytckikigjleckeaa

/-
  The document's empties: layer 12.
-/
namespace Go.Proofs.Ytckikigjleckeaa
open Go.RowKit

/-- f of those numbers below k that q takes -/
def pickTo (f : Nat → Nat) (q : Nat → Bool) (k : Nat) : List Nat := ((List.range k).filter q).map f
theorem pickTo_yes {f : Nat → Nat} {q : Nat → Bool} {k : Nat} (h : q k = true) : pickTo f q (k + 1) = pickTo f q k ++ [f k] := by
  unfold pickTo
  rw [List.range_succ, List.filter_append, List.filter_cons_of_pos h, List.map_append]
  rfl
theorem pickTo_no {f : Nat → Nat} {q : Nat → Bool} {k : Nat} (h : q k = false) : pickTo f q (k + 1) = pickTo f q k := by
  unfold pickTo
  rw [List.range_succ, List.filter_append, List.filter_cons_of_neg (by rw [h]; decide), List.filter_nil, List.append_nil]
theorem pickTo_len (f : Nat → Nat) (q : Nat → Bool) (k : Nat) : (pickTo f q k).length ≤ k := by
  unfold pickTo
  rw [List.length_map]
  exact Nat.le_trans (List.length_filter_le _ _) (by rw [List.length_range]; exact Nat.le_refl _)
/-- where empty lines begin, among the first so many -/
def emptTo (S : List UInt8) (k : Nat) : List Nat := pickTo (fun n => (boundsL S (n : Int)).1.1) (fun n => decide ((boundsL S (n : Int)).1.1 = (boundsL S (n : Int)).1.2)) k
def emptM (S : List UInt8) : List Nat := emptTo S (countL S)

set_option maxHeartbeats 2000000 in
theorem refMEmpt_any (S : List UInt8) (hS : S.length ≤ 1000000) (w : World) :
    Calls Try.prog 51 #[.string ⟨S.toArray⟩] w fun e w' => ∃ A c, e = .returned (.slice A (emptM S).length c) ∧ w'.ownsRow w.heap.size 3 1 (.slice A (emptM S).length c) (emptM S).length ((emptM S).map intn) ∧ Below w.heap.size w w' := by
  have hcl := countL_le S
  go_enter Try.func51, Try.ntmps51
  go_wp2_with fail
  go_loopw [3, 4] (fun v i wr => ∃ k : Nat, k ≤ countL S ∧ i = .int .i64 k ∧ wr.ownsRow w.heap.size 3 1 v (emptTo S k).length ((emptTo S k).map intn) ∧ Below w.heap.size w wr) (fun _ i _ => countL S - (intOf i).toNat)
  case atStart => exact ⟨0, Nat.zero_le _, rfl, World.ownsRow_nil _ _ _ _, Below.refl _ _⟩
  case round =>
    obtain ⟨k, hk, rfl, hown, hb⟩ := hrel
    have hpl : (emptTo S k).length ≤ k := pickTo_len _ _ _
    obtain ⟨A1, c1, rfl⟩ := own_form hown
    by_cases hlt : k < countL S
    · have hlt' : (k : Int) < (countL S : Int) := by omega
      have HY := Lib.hid (pickTo_yes (f := fun n => (boundsL S (n : Int)).1.1) (q := fun n => decide ((boundsL S (n : Int)).1.1 = (boundsL S (n : Int)).1.2)) (k := k))
      have HN := Lib.hid (pickTo_no (f := fun n => (boundsL S (n : Int)).1.1) (q := fun n => decide ((boundsL S (n : Int)).1.1 = (boundsL S (n : Int)).1.2)) (k := k))
      obtain ⟨v, hv⟩ : ∃ v, boundsL S (k : Int) = v := ⟨_, rfl⟩
      obtain ⟨⟨f, t⟩, o⟩ := v
      have HB := Lib.hid hv
      by_cases hft : f = t
      · have HT : Hid (emptTo S (k + 1) = emptTo S k ++ [f]) := by
          have := HY.out (by rw [hv]; simp [hft])
          rw [hv] at this
          exact this
        have e1 : ((f : Int) == (t : Int)) = true := by simp [hft]
        clear hv hft HY HN
        generalize emptTo S k = D at *
        go_wp2_with (first
          | (go_at_call 16; refine (refCount_any S hS _).mono ?_; rintro e w1 ⟨rfl, b1⟩)
          | (go_at_call 46; refine (refBounds_any S hS (k : Int) _).mono ?_; rw [HB.out]; rintro e w2 ⟨rfl, b2⟩; have b3 := b1.trans (b2.mono b1.size); have hown3 := own_keep hown b3 (Nat.le_refl _))
          | (at_builtin; refine wpList_push rfl (.tmp 24) (.tmp 26) _ rfl w.heap.size 3 _ 8 elt_int _ _ _ _ rfl hown3 (.int .i64 (f : Nat)) rfl rfl (by unfold maxLen; omega) (by omega) (Nat.le_trans hb.size b3.size) ?_; intro v4 w4 hown4 hb4))
        go_roundw
        case rel => exact ⟨k + 1, by omega, by go_num, by rw [HT.out, List.length_append, List.map_append]; exact hown4, (hb.trans (b3.mono hb.size)).trans hb4⟩
        case measure => simp [intOf]; omega
      · have HT : Hid (emptTo S (k + 1) = emptTo S k) := HN.out (by rw [hv]; simpa using hft)
        have e1 : ((f : Int) == (t : Int)) = false := by rw [beq_eq_false_iff_ne]; omega
        clear hv hft HY HN
        generalize emptTo S k = D at *
        go_wp2_with (first
          | (go_at_call 16; refine (refCount_any S hS _).mono ?_; rintro e w1 ⟨rfl, b1⟩)
          | (go_at_call 46; refine (refBounds_any S hS (k : Int) _).mono ?_; rw [HB.out]; rintro e w2 ⟨rfl, b2⟩; have b3 := b1.trans (b2.mono b1.size); have hown3 := own_keep hown b3 (Nat.le_refl _)))
        go_roundw
        case rel => exact ⟨k + 1, by omega, by go_num, by rw [HT.out]; exact hown3, hb.trans (b3.mono hb.size)⟩
        case measure => simp [intOf]; omega
    · have hlt' : ¬ (k : Int) < (countL S : Int) := by omega
      have HK : Hid (emptM S = emptTo S k) := by
        show emptM S = _
        unfold emptM
        rw [show countL S = k by omega]
      generalize emptTo S k = D at *
      go_wp2_with (go_at_call 16; refine (refCount_any S hS _).mono ?_; rintro e w1 ⟨rfl, b1⟩)
      go_ret
      rw [HK.out]
      exact ⟨A1, c1, rfl, own_keep hown b1 (Nat.le_refl _), hb.trans (b1.mono hb.size)⟩
end Go.Proofs.Ytckikigjleckeaa

/-
  The document's inLine: layer 12.
-/
namespace Go.Proofs.Ytckikigjleckeaa
open Go.RowKit

def lineQ (L : List (Nat × Nat)) (f t : Nat) (r : Int) (i : Nat) : Bool := decide (f ≤ width (L.take i)) && decide (width (L.take i) < t) && (decide (r < 0) || decide (((L.getD i (0, 0)).1 : Int) = r))
/-- where the signs of a line begin, of a rune, if one is named -/
def inLineM (S : List UInt8) (n r : Int) : List Nat := placesTo (chars S) (lineQ (chars S) (boundsL S n).1.1 (boundsL S n).1.2 r) (chars S).length

set_option maxHeartbeats 2000000 in
theorem refMInLine_any (S : List UInt8) (hS : S.length ≤ 1000000) (n r : Int) (w : World) :
    Calls Try.prog 47 #[.string ⟨S.toArray⟩, .int .i64 n, .int .i64 r] w fun e w' => ∃ A c, e = .returned (.slice A (inLineM S n r).length c) ∧ w'.ownsRow w.heap.size 3 1 (.slice A (inLineM S n r).length c) (inLineM S n r).length ((inLineM S n r).map intn) ∧ Below w.heap.size w w' := by
  have HN := Lib.hid (chars_len S)
  obtain ⟨v, hv⟩ : ∃ v, boundsL S n = v := ⟨_, rfl⟩
  obtain ⟨⟨f, t⟩, o⟩ := v
  have HB := Lib.hid hv
  have HM : Hid (inLineM S n r = placesTo (chars S) (lineQ (chars S) f t r) (chars S).length) := by
    show inLineM S n r = _
    unfold inLineM
    rw [hv]
  clear hv
  go_enter Try.func47, Try.ntmps47
  go_upto_region 3 with (first
    | (go_at_call 46; refine (refBounds_any S hS n _).mono ?_; rw [HB.out]; rintro e w0 ⟨rfl, b0⟩)
    | (go_at_call 31; refine (refSigns_any S hS _).mono ?_; rintro e w1 ⟨A0, c0, rfl, hown0, hb0⟩))
  have HR := Lib.hid (Row.of_own hown0)
  have hN := HN.out
  replace hb0 := b0.trans (hb0.mono b0.size)
  generalize chars S = L at *
  clear hown0
  go_wp2_with fail
  go_loopw [11, 12] (fun v i wr => ∃ k : Nat, k ≤ L.length ∧ i = .int .i64 k ∧ wr.ownsRow w1.heap.size 3 1 v (placesTo L (lineQ L f t r) k).length ((placesTo L (lineQ L f t r) k).map intn) ∧ Below w1.heap.size w1 wr) (fun _ i _ => L.length - (intOf i).toNat)
  case atStart => exact ⟨0, Nat.zero_le _, rfl, World.ownsRow_nil _ _ _ _, Below.refl _ _⟩
  case round =>
    obtain ⟨k, hk, rfl, hown, hb⟩ := hrel
    have BB := Lib.hid hb
    have z := hb.size
    have hpl := placesTo_len L (lineQ L f t r) k
    obtain ⟨A1, c1, rfl⟩ := own_form hown
    by_cases hlt : k < L.length
    · have hlt' : (k : Int) < (L.length : Int) := by omega
      have hk0 : (0 : Int) ≤ (k : Int) := by omega
      obtain ⟨ad, rfl, _, v0, _, v2, _⟩ := sign_cells (HR.out.below hb) hlt
      rw [Nat.zero_add] at v0
      clear hb
      have HQ : Hid (lineQ L f t r k = (decide (f ≤ width (L.take k)) && decide (width (L.take k) < t) && (decide (r < 0) || decide ((L[k].1 : Int) = r)))) := by
        show lineQ L f t r k = _
        unfold lineQ
        rw [List.getD_eq_getElem?_getD, List.getElem?_eq_getElem hlt]
        rfl
      have HY := Lib.hid (placesTo_yes (L := L) (q := lineQ L f t r) (k := k))
      have HNO := Lib.hid (placesTo_no (L := L) (q := lineQ L f t r) (k := k))
      generalize L[k].1 = y at *
      generalize width (L.take k) = x at *
      by_cases h1 : f ≤ x
      · have h1' : (f : Int) ≤ (x : Int) := by omega
        by_cases h2 : x < t
        · have h2' : (x : Int) < (t : Int) := by omega
          by_cases h3 : r < 0
          · have HT := Lib.hid (HY.out (by rw [HQ.out]; simp [h1, h2, h3]))
            clear h1 h2 HY HNO HQ
            generalize placesTo L (lineQ L f t r) k = D at *
            go_wp2_with (at_builtin; refine wpList_push rfl (.tmp 57) (.tmp 63) _ rfl w1.heap.size 3 _ 8 elt_int _ _ _ _ rfl hown (.int .i64 (x : Nat)) rfl rfl (by unfold maxLen; omega) (by omega) z ?_; intro v2 w2 hown2 hb2)
            go_roundw
            case rel => exact ⟨k + 1, by omega, by go_num, by rw [HT.out, List.length_append, List.map_append]; exact hown2, BB.out.trans hb2⟩
            case measure => simp [intOf]; omega
          · by_cases h4 : (y : Int) = r
            · subst h4
              have HT := Lib.hid (HY.out (by rw [HQ.out]; simp [h1, h2]))
              clear h1 h2 HY HNO HQ
              generalize placesTo L (lineQ L f t (y : Int)) k = D at *
              go_wp2_with (at_builtin; refine wpList_push rfl (.tmp 57) (.tmp 63) _ rfl w1.heap.size 3 _ 8 elt_int _ _ _ _ rfl hown (.int .i64 (x : Nat)) rfl rfl (by unfold maxLen; omega) (by omega) z ?_; intro v2 w2 hown2 hb2)
              go_roundw
              case rel => exact ⟨k + 1, by omega, by go_num, by rw [HT.out, List.length_append, List.map_append]; exact hown2, BB.out.trans hb2⟩
              case measure => simp [intOf]; omega
            · have h4' : ((y : Int) == r) = false := by rw [beq_eq_false_iff_ne]; exact h4
              have HT := Lib.hid (HNO.out (by rw [HQ.out]; simp [h3, h4]))
              clear h1 h2 h4 HY HNO HQ
              generalize placesTo L (lineQ L f t r) k = D at *
              go_wp2_with fail
              go_roundw
              case rel => exact ⟨k + 1, by omega, by go_num, by rw [HT.out]; exact hown, BB.out⟩
              case measure => simp [intOf]; omega
        · have h2' : ¬ (x : Int) < (t : Int) := by omega
          have HT := Lib.hid (HNO.out (by rw [HQ.out]; simp [h2]))
          clear h1 h2 HY HNO HQ
          generalize placesTo L (lineQ L f t r) k = D at *
          go_wp2_with fail
          go_roundw
          case rel => exact ⟨k + 1, by omega, by go_num, by rw [HT.out]; exact hown, BB.out⟩
          case measure => simp [intOf]; omega
      · have h1' : ¬ (f : Int) ≤ (x : Int) := by omega
        have HT := Lib.hid (HNO.out (by rw [HQ.out]; simp [h1]))
        clear h1 HY HNO HQ
        generalize placesTo L (lineQ L f t r) k = D at *
        go_wp2_with fail
        go_roundw
        case rel => exact ⟨k + 1, by omega, by go_num, by rw [HT.out]; exact hown, BB.out⟩
        case measure => simp [intOf]; omega
    · have hlt' : ¬ (k : Int) < (L.length : Int) := by omega
      have HK : Hid (inLineM S n r = placesTo L (lineQ L f t r) k) := by
        show inLineM S n r = _
        rw [HM.out, show L.length = k by omega]
      generalize placesTo L (lineQ L f t r) k = D at *
      go_wp2_with fail
      go_ret
      rw [HK.out]
      exact ⟨A1, c1, rfl, own_base hown hb0.size, hb0.trans (BB.out.mono hb0.size)⟩
end Go.Proofs.Ytckikigjleckeaa

/-
  The document's exclusive, inclusive: layer 12.
-/
namespace Go.Proofs.Ytckikigjleckeaa
open Go.RowKit

/-- where a motion leads, and what it goes over; or it doesn't lead anywhere -/
def GivesIIB (w : World) (r : Option (Nat × Nat)) (e : Ending) (w' : World) : Prop := e = .returned (.tuple #[.int .i64 (((r.getD (0, 0)).1 : Nat) : Int), .int .i64 (((r.getD (0, 0)).2 : Nat) : Int), .bool r.isSome]) ∧ Below w.heap.size w w'
def exclM (a : Nat) (r : Option Nat) : Option (Nat × Nat) := r.bind fun x => if x = a then none else some (x, 0)
def inclM (r : Option Nat) : Option (Nat × Nat) := r.map fun x => (x, 1)
theorem refMExcl_any (a : Nat) (r : Option Nat) (w : World) : Calls Try.prog 22 #[.int .i64 (a : Nat), .int .i64 ((r.getD 0 : Nat) : Int), .bool r.isSome] w (GivesIIB w (exclM a r)) := by
  cases r with
  | none =>
    go_enter Try.func22, Try.ntmps22
    go_wp2_with fail
    go_ret3
    exact ⟨rfl, Below.refl _ _⟩
  | some x =>
    by_cases h : x = a
    · have HE : Hid (exclM a (some x) = none) := if_pos h
      have e1 : ((x : Int) == (a : Int)) = true := by simp [h]
      clear h
      go_enter Try.func22, Try.ntmps22
      go_wp2_with fail
      go_ret3
      exact ⟨by rw [HE.out]; rfl, Below.refl _ _⟩
    · have HE : Hid (exclM a (some x) = some (x, 0)) := if_neg h
      have e1 : ((x : Int) == (a : Int)) = false := by rw [beq_eq_false_iff_ne]; omega
      clear h
      go_enter Try.func22, Try.ntmps22
      go_wp2_with fail
      go_ret3
      exact ⟨by rw [HE.out]; rfl, Below.refl _ _⟩
theorem refMIncl_any (r : Option Nat) (w : World) : Calls Try.prog 28 #[.int .i64 ((r.getD 0 : Nat) : Int), .bool r.isSome] w (GivesIIB w (inclM r)) := by
  cases r with
  | none =>
    go_enter Try.func28, Try.ntmps28
    go_wp2_with fail
    go_ret3
    exact ⟨rfl, Below.refl _ _⟩
  | some x =>
    go_enter Try.func28, Try.ntmps28
    go_wp2_with fail
    go_ret3
    exact ⟨rfl, Below.refl _ _⟩
end Go.Proofs.Ytckikigjleckeaa

/-
  Where motions lead, as plain functions: layer 12.
-/
namespace Go.Proofs.Ytckikigjleckeaa
open Go.RowKit

/-- the number of the sign in which a place lies -/
def whichM (L : List (Nat × Nat)) (p : Int) : Nat := (List.range L.length).findIdx fun j => decide (p < ((width (L.take (j + 1)) : Nat) : Int))
theorem which_is (L : List (Nat × Nat)) (p : Int) : Which L p (whichM L p) := by
  have hle : whichM L p ≤ L.length := by
    have := List.findIdx_le_length (xs := List.range L.length) (p := fun j => decide (p < ((width (L.take (j + 1)) : Nat) : Int)))
    rwa [List.length_range] at this
  refine ⟨hle, fun j hj => ?_, fun hi => ?_⟩
  · have := List.not_of_lt_findIdx (p := fun j => decide (p < ((width (L.take (j + 1)) : Nat) : Int))) (xs := List.range L.length) hj
    simp only [List.getElem_range, decide_eq_false_iff_not] at this
    omega
  · have h2 : (List.range L.length).findIdx (fun j => decide (p < ((width (L.take (j + 1)) : Nat) : Int))) < (List.range L.length).length := by rw [List.length_range]; exact hi
    have := List.findIdx_getElem (w := h2)
    simp only [List.getElem_range, decide_eq_true_eq] at this
    exact this
theorem use_factM {p G : Prop} (h : p) (k : p → G) : G := k h
def alignM (S : List UInt8) (p : Int) : Nat := width ((chars S).take (whichM (chars S) p))
def nextM (S : List UInt8) (p : Int) : Nat := width ((chars S).take (whichM (chars S) p + 1))
def prevM (S : List UInt8) (p : Int) : Nat := width ((chars S).take (whichM (chars S) p - 1))
theorem alignM_le (S : List UInt8) (p : Int) : alignM S p ≤ S.length := by
  have := width_le_take (chars S) (whichM (chars S) p)
  rwa [width_chars] at this
theorem refMAlign (S : List UInt8) (hs : S.length ≤ 1000000) (p : Int) (w : World) : Calls Try.prog 12 #[.string ⟨S.toArray⟩, .int .i64 p] w fun e w' => e = .returned (.int .i64 (alignM S p : Nat)) ∧ Below w.heap.size w w' :=
  (refAlign_any S hs p w).mono fun e w' ⟨i, he, hi, hb⟩ => ⟨by rw [he, hi.unique (which_is _ _)]; rfl, hb⟩
theorem refMNext (S : List UInt8) (hs : S.length ≤ 1000000) (p : Int) (w : World) : Calls Try.prog 15 #[.string ⟨S.toArray⟩, .int .i64 p] w fun e w' => e = .returned (.int .i64 (nextM S p : Nat)) ∧ Below w.heap.size w w' :=
  (refNext_any S hs p w).mono fun e w' ⟨i, he, hi, hb⟩ => ⟨by rw [he, hi.unique (which_is _ _)]; rfl, hb⟩
theorem refMPrev (S : List UInt8) (hs : S.length ≤ 1000000) (p : Int) (w : World) : Calls Try.prog 27 #[.string ⟨S.toArray⟩, .int .i64 p] w fun e w' => e = .returned (.int .i64 (prevM S p : Nat)) ∧ Below w.heap.size w w' :=
  (refPrev_any S hs p w).mono fun e w' ⟨i, he, hi, hb⟩ => ⟨by rw [he, hi.unique (which_is _ _)]; rfl, hb⟩
/-- the column of a place -/
def colM (S : List UInt8) (p : Int) : Nat := colAt S (alignM S p)
theorem refMCol (S : List UInt8) (hs : S.length ≤ 1000000) (p : Int) (w : World) : Calls Try.prog 55 #[.string ⟨S.toArray⟩, .int .i64 p] w fun e w' => e = .returned (.int .i64 (colM S p : Nat)) ∧ Below w.heap.size w w' :=
  (refCol_any S hs p w).mono fun e w' ⟨i, he, hi, hb⟩ => ⟨by rw [he, hi.unique (which_is _ _)]; rfl, hb⟩
theorem refMOrD (r : Option Nat) (d : Nat) (w : World) : Calls Try.prog 26 #[.int .i64 ((r.getD 0 : Nat) : Int), .bool r.isSome, .int .i64 (d : Nat)] w fun e w' => e = .returned (.int .i64 ((r.getD d : Nat) : Int)) ∧ w' = w :=
  (refMOr_any _ _ _ w).mono fun e w' ⟨he, hw⟩ => ⟨by rw [he]; cases r <;> rfl, hw⟩
theorem ofL_le (S : List UInt8) (p : Int) : ofL S p < countL S := by
  unfold ofL countL
  have := endsTo_mono S (show min S.length p.toNat ≤ S.length by omega)
  omega
theorem inLineM_len (S : List UInt8) (n r : Int) : (inLineM S n r).length ≤ S.length := by
  have h1 := placesTo_len (chars S) (lineQ (chars S) (boundsL S n).1.1 (boundsL S n).1.2 r) (chars S).length
  have h2 := chars_len S
  exact Nat.le_trans h1 h2

/-- h, l, 0, ^ and $ -/
def sideM (S : List UInt8) (a n : Nat) (key : Int) : Option Nat :=
  if key = 104 then some ((aheadM (inLineM S (ofL S a : Nat) (-1)) a n).getD (boundsL S (ofL S a : Nat)).1.1)
  else if key = 108 then some ((behindM (inLineM S (ofL S a : Nat) (-1)) a n).getD (boundsL S (ofL S a : Nat)).1.2)
  else if key = 48 then some (boundsL S (ofL S a : Nat)).1.1
  else if key = 94 then some (firstL S (ofL S a : Nat))
  else if (ofL S a : Int) + n - 1 < (countL S : Int) then some (boundsL S ((ofL S a : Nat) + (n : Nat) - 1 : Int)).1.2 else none
/-- w, b, { and } -/
def wordsM (S : List UInt8) (a n : Nat) (key : Int) : Nat :=
  if key = 119 then (behindM (begsM (chars S)) a n).getD S.length
  else if key = 98 then (aheadM (begsM (chars S)) a n).getD 0
  else if key = 125 then (behindM (emptM S) (boundsL S (ofL S a : Nat)).1.2 n).getD S.length
  else (aheadM (emptM S) (boundsL S (ofL S a : Nat)).1.1 n).getD 0
/-- f, t, F and T -/
def findsM (S : List UInt8) (a n : Nat) (key arg : Int) : Option Nat :=
  if arg < 0 then none
  else if key = 102 then behindM (inLineM S (ofL S a : Nat) arg) a n
  else if key = 116 then (behindM (inLineM S (ofL S a : Nat) arg) a n).map fun x => prevM S (x : Nat)
  else if key = 84 then (aheadM (inLineM S (ofL S a : Nat) arg) a n).map fun x => nextM S (x : Nat)
  else aheadM (inLineM S (ofL S a : Nat) arg) a n
/-- to which line j, k, G and g lead -/
def lineM (S : List UInt8) (a n : Nat) (key count : Int) : Int :=
  if key = 106 then (ofL S a : Int) + n else if key = 107 then (ofL S a : Int) - n else if count < 1 ∧ key = 103 then 0 else if count < 1 ∨ (countL S : Int) < count then (countL S : Int) - 1 else count - 1
def linesM (S : List UInt8) (a n : Nat) (key count : Int) : Option Nat :=
  if 0 ≤ lineM S a n key count ∧ lineM S a n key count < (countL S : Int) then some (if key = 106 ∨ key = 107 then placeL S (lineM S a n key count) (colM S (a : Nat) : Nat) else firstL S (lineM S a n key count)) else none
def manyM (count : Int) : Nat := (min (max count 1) 999).toNat
/-- where a motion leads, and what it goes over -/
def toM (S : List UInt8) (at_ key arg count : Int) : Option (Nat × Nat) :=
  let a := alignM S at_
  let n := manyM count
  if key = 104 ∨ key = 108 ∨ key = 48 ∨ key = 94 ∨ key = 36 then exclM a (sideM S a n key)
  else if key = 119 ∨ key = 98 ∨ key = 123 ∨ key = 125 then exclM a (some (wordsM S a n key))
  else if key = 101 then (let x := (behindM (endsM (chars S)) a n).getD (prevM S (S.length : Nat)); if a < x then some (x, 1) else none)
  else if key = 102 ∨ key = 116 then inclM (findsM S a n key arg)
  else if key = 70 ∨ key = 84 then exclM a (findsM S a n key arg)
  else if key = 106 ∨ key = 107 ∨ key = 71 ∨ key = 103 then (linesM S a n key count).map fun x => (x, 2)
  else none
end Go.Proofs.Ytckikigjleckeaa

/-
  The document's sideways: h, l, 0, ^ and $.
-/
namespace Go.Proofs.Ytckikigjleckeaa
open Go.RowKit

set_option maxHeartbeats 2000000 in
theorem refMSide_any (S : List UInt8) (hS : S.length ≤ 1000000) (a n : Nat) (_ha : a ≤ S.length) (hn : 1 ≤ n ∧ n ≤ 999) (key : Int) (w : World) :
    Calls Try.prog 21 #[.string ⟨S.toArray⟩, .int .i64 (a : Nat), .int .i64 (n : Nat), .int .i64 key] w (GivesIB w (sideM S a n key)) := by
  have hof := ofL_le S (a : Nat)
  have hcl := countL_le S
  have hil := inLineM_len S (ofL S (a : Nat) : Nat) (-1)
  obtain ⟨v, hv⟩ : ∃ v, sideM S a n key = v := ⟨_, rfl⟩
  rw [hv]
  have HV := Lib.hid hv
  clear hv
  unfold sideM at HV
  obtain ⟨bd, hbd⟩ : ∃ x, boundsL S (ofL S (a : Nat) : Nat) = x := ⟨_, rfl⟩
  obtain ⟨⟨f, t⟩, er⟩ := bd
  obtain ⟨l, hl⟩ : ∃ l, inLineM S (ofL S (a : Nat) : Nat) (-1) = l := ⟨_, rfl⟩
  rw [hbd, hl] at HV
  rw [hl] at hil
  have HBD := Lib.hid hbd
  have HLL := Lib.hid hl
  clear hbd hl
  generalize hq : ofL S (a : Nat) = q at *
  have HQ := Lib.hid hq
  clear hq
  by_cases h1 : key = 104
  · subst h1
    have HE : Hid (some ((aheadM l a n).getD f) = v) := by have := HV.out; rwa [if_pos rfl] at this
    have HA : Hid (∀ wz A c, Row wz wz.heap.size A (l.map intn) → Calls Try.prog 48 #[.slice A l.length c, .int .i64 (a : Nat), .int .i64 (n : Nat)] wz (GivesIB wz (aheadM l a n))) := fun wz A c hr => refMAhead_any A c _ l (by omega) a n (by omega) wz (Nat.le_refl _) hr
    generalize aheadM l a n = r at *
    go_enter Try.func21, Try.ntmps21
    go_wp2_with (first
      | (go_at_call 14; refine (refOf_any S hS (a : Nat) _).mono ?_; rw [HQ.out]; rintro e w1 ⟨rfl, b1⟩)
      | (go_at_call 46; refine (refBounds_any S hS (q : Nat) _).mono ?_; rw [HBD.out]; rintro e w2 ⟨rfl, b2⟩; replace b2 := b1.trans (b2.mono b1.size))
      | (go_at_call 47; refine (refMInLine_any S hS (q : Nat) (-1) _).mono ?_; rw [HLL.out]; rintro e w3 ⟨A3, c3, rfl, own3, b3⟩; replace b3 := b2.trans (b3.mono b2.size); have R3 := Lib.hid (Row.of_own own3); clear own3)
      | (go_at_call 48; refine (HA.out _ A3 c3 R3.out).mono ?_; rintro e w4 ⟨rfl, b4⟩; replace b4 := b3.trans (b4.mono b3.size))
      | (go_at_call 26; refine (refMOrD _ f _).mono ?_; rintro e w5 ⟨rfl, hw⟩; subst w5))
    go_ret2
    rw [← HE.out]
    exact ⟨rfl, b4⟩
  by_cases h2 : key = 108
  · subst h2
    have HE : Hid (some ((behindM l a n).getD t) = v) := by have := HV.out; rwa [if_neg (by decide), if_pos rfl] at this
    have HA : Hid (∀ wz A c, Row wz wz.heap.size A (l.map intn) → Calls Try.prog 24 #[.slice A l.length c, .int .i64 (a : Nat), .int .i64 (n : Nat)] wz (GivesIB wz (behindM l a n))) := fun wz A c hr => refMBehind_any A c _ l (by omega) a n (by omega) wz (Nat.le_refl _) hr
    generalize behindM l a n = r at *
    go_enter Try.func21, Try.ntmps21
    go_wp2_with (first
      | (go_at_call 14; refine (refOf_any S hS (a : Nat) _).mono ?_; rw [HQ.out]; rintro e w1 ⟨rfl, b1⟩)
      | (go_at_call 46; refine (refBounds_any S hS (q : Nat) _).mono ?_; rw [HBD.out]; rintro e w2 ⟨rfl, b2⟩; replace b2 := b1.trans (b2.mono b1.size))
      | (go_at_call 47; refine (refMInLine_any S hS (q : Nat) (-1) _).mono ?_; rw [HLL.out]; rintro e w3 ⟨A3, c3, rfl, own3, b3⟩; replace b3 := b2.trans (b3.mono b2.size); have R3 := Lib.hid (Row.of_own own3); clear own3)
      | (go_at_call 24; refine (HA.out _ A3 c3 R3.out).mono ?_; rintro e w4 ⟨rfl, b4⟩; replace b4 := b3.trans (b4.mono b3.size))
      | (go_at_call 26; refine (refMOrD _ t _).mono ?_; rintro e w5 ⟨rfl, hw⟩; subst w5))
    go_ret2
    rw [← HE.out]
    exact ⟨rfl, b4⟩
  by_cases h3 : key = 48
  · subst h3
    have HE : Hid (some f = v) := by have := HV.out; rwa [if_neg (by decide), if_neg (by decide), if_pos rfl] at this
    go_enter Try.func21, Try.ntmps21
    go_wp2_with (first
      | (go_at_call 14; refine (refOf_any S hS (a : Nat) _).mono ?_; rw [HQ.out]; rintro e w1 ⟨rfl, b1⟩)
      | (go_at_call 46; refine (refBounds_any S hS (q : Nat) _).mono ?_; rw [HBD.out]; rintro e w2 ⟨rfl, b2⟩; replace b2 := b1.trans (b2.mono b1.size))
      | (go_at_call 47; refine (refMInLine_any S hS (q : Nat) (-1) _).mono ?_; rw [HLL.out]; rintro e w3 ⟨A3, c3, rfl, own3, b3⟩; replace b3 := b2.trans (b3.mono b2.size); have R3 := Lib.hid (Row.of_own own3); clear own3))
    go_ret2
    rw [← HE.out]
    exact ⟨rfl, b3⟩
  by_cases h4 : key = 94
  · subst h4
    have HE : Hid (some (firstL S (q : Nat)) = v) := by have := HV.out; rwa [if_neg (by decide), if_neg (by decide), if_neg (by decide), if_pos rfl] at this
    generalize hfi : firstL S (q : Nat) = fi at *
    have HFI := Lib.hid hfi
    clear hfi
    go_enter Try.func21, Try.ntmps21
    go_wp2_with (first
      | (go_at_call 14; refine (refOf_any S hS (a : Nat) _).mono ?_; rw [HQ.out]; rintro e w1 ⟨rfl, b1⟩)
      | (go_at_call 46; refine (refBounds_any S hS (q : Nat) _).mono ?_; rw [HBD.out]; rintro e w2 ⟨rfl, b2⟩; replace b2 := b1.trans (b2.mono b1.size))
      | (go_at_call 47; refine (refMInLine_any S hS (q : Nat) (-1) _).mono ?_; rw [HLL.out]; rintro e w3 ⟨A3, c3, rfl, own3, b3⟩; replace b3 := b2.trans (b3.mono b2.size); have R3 := Lib.hid (Row.of_own own3); clear own3)
      | (go_at_call 49; refine (refFirst_any S hS (q : Nat) _).mono ?_; rw [HFI.out]; rintro e w4 ⟨rfl, b4⟩; replace b4 := b3.trans (b4.mono b3.size)))
    go_ret2
    rw [← HE.out]
    exact ⟨rfl, b4⟩
  have e1 : (key == 104) = false := by rw [beq_eq_false_iff_ne]; exact h1
  have e2 : (key == 108) = false := by rw [beq_eq_false_iff_ne]; exact h2
  have e3 : (key == 48) = false := by rw [beq_eq_false_iff_ne]; exact h3
  have e4 : (key == 94) = false := by rw [beq_eq_false_iff_ne]; exact h4
  have HE : Hid ((if (q : Int) + n - 1 < (countL S : Int) then some (boundsL S ((q : Nat) + (n : Nat) - 1 : Int)).1.2 else none) = v) := by
    have := HV.out
    rwa [if_neg h1, if_neg h2, if_neg h3, if_neg h4] at this
  clear h1 h2 h3 h4 HV
  by_cases h5 : (q : Int) + n - 1 < (countL S : Int)
  · have h5' : ¬ (countL S : Int) ≤ (q : Int) + n - 1 := by omega
    have HE2 : Hid (some (boundsL S ((q : Nat) + (n : Nat) - 1 : Int)).1.2 = v) := by have := HE.out; rwa [if_pos h5] at this
    go_enter Try.func21, Try.ntmps21
    go_wp2_with (first
      | (go_at_call 46; refine use_factM b4 ?_; intro _; refine (refBounds_any S hS ((q : Nat) + (n : Nat) - 1 : Int) _).mono ?_; rintro e w6 ⟨rfl, b6⟩; replace b6 := b4.trans (b6.mono b4.size))
      | (go_at_call 14; refine (refOf_any S hS (a : Nat) _).mono ?_; rw [HQ.out]; rintro e w1 ⟨rfl, b1⟩)
      | (go_at_call 46; refine (refBounds_any S hS (q : Nat) _).mono ?_; rw [HBD.out]; rintro e w2 ⟨rfl, b2⟩; replace b2 := b1.trans (b2.mono b1.size))
      | (go_at_call 47; refine (refMInLine_any S hS (q : Nat) (-1) _).mono ?_; rw [HLL.out]; rintro e w3 ⟨A3, c3, rfl, own3, b3⟩; replace b3 := b2.trans (b3.mono b2.size); have R3 := Lib.hid (Row.of_own own3); clear own3)
      | (go_at_call 16; refine (refCount_any S hS _).mono ?_; rintro e w4 ⟨rfl, b4⟩; replace b4 := b3.trans (b4.mono b3.size)))
    go_ret2
    rw [← HE2.out]
    exact ⟨rfl, b6⟩
  · have h5' : (countL S : Int) ≤ (q : Int) + n - 1 := by omega
    have HE2 : Hid (none = v) := by have := HE.out; rwa [if_neg h5] at this
    go_enter Try.func21, Try.ntmps21
    go_wp2_with (first
      | (go_at_call 14; refine (refOf_any S hS (a : Nat) _).mono ?_; rw [HQ.out]; rintro e w1 ⟨rfl, b1⟩)
      | (go_at_call 46; refine (refBounds_any S hS (q : Nat) _).mono ?_; rw [HBD.out]; rintro e w2 ⟨rfl, b2⟩; replace b2 := b1.trans (b2.mono b1.size))
      | (go_at_call 47; refine (refMInLine_any S hS (q : Nat) (-1) _).mono ?_; rw [HLL.out]; rintro e w3 ⟨A3, c3, rfl, own3, b3⟩; replace b3 := b2.trans (b3.mono b2.size); have R3 := Lib.hid (Row.of_own own3); clear own3)
      | (go_at_call 16; refine (refCount_any S hS _).mono ?_; rintro e w4 ⟨rfl, b4⟩; replace b4 := b3.trans (b4.mono b3.size)))
    go_ret2
    rw [← HE2.out]
    exact ⟨rfl, b4⟩
end Go.Proofs.Ytckikigjleckeaa

/-
  The document's words: w, b, { and }.
-/
namespace Go.Proofs.Ytckikigjleckeaa
open Go.RowKit

theorem begsM_len (S : List UInt8) : (begsM (chars S)).length ≤ S.length := by
  have h1 := placesTo_len (chars S) (begQ (chars S)) (chars S).length
  have h2 := chars_len S
  exact Nat.le_trans h1 h2
theorem endsM_len (S : List UInt8) : (endsM (chars S)).length ≤ S.length := by
  have h1 := placesTo_len (chars S) (endQ (chars S)) (chars S).length
  have h2 := chars_len S
  exact Nat.le_trans h1 h2
theorem emptM_len (S : List UInt8) : (emptM S).length ≤ S.length + 1 := by
  have h1 : (emptM S).length ≤ countL S := pickTo_len _ _ _
  have h2 := countL_le S
  omega
set_option maxHeartbeats 2000000 in
theorem refMWords_any (S : List UInt8) (hS : S.length ≤ 1000000) (a n : Nat) (_ha : a ≤ S.length) (hn : 1 ≤ n ∧ n ≤ 999) (key : Int) (w : World) :
    Calls Try.prog 23 #[.string ⟨S.toArray⟩, .int .i64 (a : Nat), .int .i64 (n : Nat), .int .i64 key] w fun e w' => e = .returned (.int .i64 (wordsM S a n key : Nat)) ∧ Below w.heap.size w w' := by
  obtain ⟨v, hv⟩ : ∃ v, wordsM S a n key = v := ⟨_, rfl⟩
  rw [hv]
  have HV := Lib.hid hv
  clear hv
  unfold wordsM at HV
  have hbl := begsM_len S
  have hel := emptM_len S
  by_cases h1 : key = 119
  · subst h1
    have HE : Hid ((behindM (begsM (chars S)) a n).getD S.length = v) := by have := HV.out; rwa [if_pos rfl] at this
    clear HV
    generalize hl : begsM (chars S) = l at *
    have HLL := Lib.hid hl
    clear hl
    have HA : Hid (∀ wz A c, Row wz wz.heap.size A (l.map intn) → Calls Try.prog 24 #[.slice A l.length c, .int .i64 (a : Nat), .int .i64 (n : Nat)] wz (GivesIB wz (behindM l a n))) := fun wz A c hr => refMBehind_any A c _ l (by omega) a n (by omega) wz (Nat.le_refl _) hr
    generalize behindM l a n = r at *
    go_enter Try.func23, Try.ntmps23
    go_wp2_with (first
      | (go_at_call 50; refine (refMBegs_any S hS _).mono ?_; rw [HLL.out]; rintro e w3 ⟨A3, c3, rfl, own3, b3⟩; have R3 := Lib.hid (Row.of_own own3); clear own3)
      | (go_at_call 24; refine (HA.out _ A3 c3 R3.out).mono ?_; rintro e w4 ⟨rfl, b4⟩; replace b4 := b3.trans (b4.mono b3.size))
      | (go_at_call 26; refine (refMOrD _ S.length _).mono ?_; rintro e w5 ⟨rfl, hw⟩; subst w5))
    go_ret
    rw [← HE.out]
    exact ⟨rfl, b4⟩
  by_cases h2 : key = 98
  · subst h2
    have HE : Hid ((aheadM (begsM (chars S)) a n).getD 0 = v) := by have := HV.out; rwa [if_neg (by decide), if_pos rfl] at this
    clear HV
    generalize hl : begsM (chars S) = l at *
    have HLL := Lib.hid hl
    clear hl
    have HA : Hid (∀ wz A c, Row wz wz.heap.size A (l.map intn) → Calls Try.prog 48 #[.slice A l.length c, .int .i64 (a : Nat), .int .i64 (n : Nat)] wz (GivesIB wz (aheadM l a n))) := fun wz A c hr => refMAhead_any A c _ l (by omega) a n (by omega) wz (Nat.le_refl _) hr
    generalize aheadM l a n = r at *
    go_enter Try.func23, Try.ntmps23
    go_wp2_with (first
      | (go_at_call 50; refine (refMBegs_any S hS _).mono ?_; rw [HLL.out]; rintro e w3 ⟨A3, c3, rfl, own3, b3⟩; have R3 := Lib.hid (Row.of_own own3); clear own3)
      | (go_at_call 48; refine (HA.out _ A3 c3 R3.out).mono ?_; rintro e w4 ⟨rfl, b4⟩; replace b4 := b3.trans (b4.mono b3.size))
      | (go_at_call 26; refine (refMOrD _ 0 _).mono ?_; rintro e w5 ⟨rfl, hw⟩; subst w5))
    go_ret
    rw [← HE.out]
    exact ⟨rfl, b4⟩
  by_cases h3 : key = 125
  · subst h3
    have HE : Hid ((behindM (emptM S) (boundsL S (ofL S a : Nat)).1.2 n).getD S.length = v) := by have := HV.out; rwa [if_neg (by decide), if_neg (by decide), if_pos rfl] at this
    clear HV
    obtain ⟨bd, hbd⟩ : ∃ x, boundsL S (ofL S (a : Nat) : Nat) = x := ⟨_, rfl⟩
    obtain ⟨⟨f, t⟩, er⟩ := bd
    rw [hbd] at HE
    have HBD := Lib.hid hbd
    clear hbd
    generalize hq : ofL S (a : Nat) = q at *
    have HQ := Lib.hid hq
    clear hq
    generalize hl : emptM S = l at *
    have HLL := Lib.hid hl
    clear hl
    have HA : Hid (∀ wz A c, Row wz wz.heap.size A (l.map intn) → Calls Try.prog 24 #[.slice A l.length c, .int .i64 (t : Nat), .int .i64 (n : Nat)] wz (GivesIB wz (behindM l t n))) := fun wz A c hr => refMBehind_any A c _ l (by omega) t n (by omega) wz (Nat.le_refl _) hr
    generalize behindM l t n = r at *
    go_enter Try.func23, Try.ntmps23
    go_wp2_with (first
      | (go_at_call 14; refine (refOf_any S hS (a : Nat) _).mono ?_; rw [HQ.out]; rintro e w1 ⟨rfl, b1⟩)
      | (go_at_call 46; refine (refBounds_any S hS (q : Nat) _).mono ?_; rw [HBD.out]; rintro e w2 ⟨rfl, b2⟩; replace b2 := b1.trans (b2.mono b1.size))
      | (go_at_call 51; refine (refMEmpt_any S hS _).mono ?_; rw [HLL.out]; rintro e w3 ⟨A3, c3, rfl, own3, b3⟩; replace b3 := b2.trans (b3.mono b2.size); have R3 := Lib.hid (Row.of_own own3); clear own3)
      | (go_at_call 24; refine (HA.out _ A3 c3 R3.out).mono ?_; rintro e w4 ⟨rfl, b4⟩; replace b4 := b3.trans (b4.mono b3.size))
      | (go_at_call 26; refine (refMOrD _ S.length _).mono ?_; rintro e w5 ⟨rfl, hw⟩; subst w5))
    go_ret
    rw [← HE.out]
    exact ⟨rfl, b4⟩
  have e1 : (key == 119) = false := by rw [beq_eq_false_iff_ne]; exact h1
  have e2 : (key == 98) = false := by rw [beq_eq_false_iff_ne]; exact h2
  have e3 : (key == 125) = false := by rw [beq_eq_false_iff_ne]; exact h3
  have HE : Hid ((aheadM (emptM S) (boundsL S (ofL S a : Nat)).1.1 n).getD 0 = v) := by
    have := HV.out
    rwa [if_neg h1, if_neg h2, if_neg h3] at this
  clear h1 h2 h3 HV
  obtain ⟨bd, hbd⟩ : ∃ x, boundsL S (ofL S (a : Nat) : Nat) = x := ⟨_, rfl⟩
  obtain ⟨⟨f, t⟩, er⟩ := bd
  rw [hbd] at HE
  have HBD := Lib.hid hbd
  clear hbd
  generalize hq : ofL S (a : Nat) = q at *
  have HQ := Lib.hid hq
  clear hq
  generalize hl : emptM S = l at *
  have HLL := Lib.hid hl
  clear hl
  have HA : Hid (∀ wz A c, Row wz wz.heap.size A (l.map intn) → Calls Try.prog 48 #[.slice A l.length c, .int .i64 (f : Nat), .int .i64 (n : Nat)] wz (GivesIB wz (aheadM l f n))) := fun wz A c hr => refMAhead_any A c _ l (by omega) f n (by omega) wz (Nat.le_refl _) hr
  generalize aheadM l f n = r at *
  go_enter Try.func23, Try.ntmps23
  go_wp2_with (first
    | (go_at_call 14; refine (refOf_any S hS (a : Nat) _).mono ?_; rw [HQ.out]; rintro e w1 ⟨rfl, b1⟩)
    | (go_at_call 46; refine (refBounds_any S hS (q : Nat) _).mono ?_; rw [HBD.out]; rintro e w2 ⟨rfl, b2⟩; replace b2 := b1.trans (b2.mono b1.size))
    | (go_at_call 51; refine (refMEmpt_any S hS _).mono ?_; rw [HLL.out]; rintro e w3 ⟨A3, c3, rfl, own3, b3⟩; replace b3 := b2.trans (b3.mono b2.size); have R3 := Lib.hid (Row.of_own own3); clear own3)
    | (go_at_call 48; refine (HA.out _ A3 c3 R3.out).mono ?_; rintro e w4 ⟨rfl, b4⟩; replace b4 := b3.trans (b4.mono b3.size))
    | (go_at_call 26; refine (refMOrD _ 0 _).mono ?_; rintro e w5 ⟨rfl, hw⟩; subst w5))
  go_ret
  rw [← HE.out]
  exact ⟨rfl, b4⟩
end Go.Proofs.Ytckikigjleckeaa

/-
  The document's finds: f, t, F and T.
-/
namespace Go.Proofs.Ytckikigjleckeaa
open Go.RowKit

theorem behind_le {l : List Nat} {a n x B : Nat} (h : behindM l a n = some x) (hb : ∀ y ∈ l, y ≤ B) : x ≤ B := hb x (behindM_mem h).1
set_option maxHeartbeats 2000000 in
theorem refMFinds_any (S : List UInt8) (hS : S.length ≤ 1000000) (a n : Nat) (_ha : a ≤ S.length) (hn : 1 ≤ n ∧ n ≤ 999) (key arg : Int) (w : World) :
    Calls Try.prog 29 #[.string ⟨S.toArray⟩, .int .i64 (a : Nat), .int .i64 (n : Nat), .int .i64 key, .int .i64 arg] w (GivesIB w (findsM S a n key arg)) := by
  obtain ⟨v, hv⟩ : ∃ v, findsM S a n key arg = v := ⟨_, rfl⟩
  rw [hv]
  have HV := Lib.hid hv
  clear hv
  unfold findsM at HV
  have hil := inLineM_len S (ofL S (a : Nat) : Nat) arg
  by_cases h0 : arg < 0
  · have HE : Hid (none = v) := by have := HV.out; rwa [if_pos h0] at this
    go_enter Try.func29, Try.ntmps29
    go_wp2_with fail
    go_ret2
    rw [← HE.out]
    exact ⟨rfl, Below.refl _ _⟩
  have h0' : ¬ arg < 0 := h0
  rw [if_neg h0] at HV
  clear h0
  generalize hl : inLineM S (ofL S (a : Nat) : Nat) arg = l at *
  have HLL := Lib.hid hl
  clear hl
  generalize hq : ofL S (a : Nat) = q at *
  have HQ := Lib.hid hq
  clear hq
  by_cases h1 : key = 102
  · subst h1
    have HE : Hid (behindM l a n = v) := by have := HV.out; rwa [if_pos rfl] at this
    clear HV
    have HA : Hid (∀ wz A c, Row wz wz.heap.size A (l.map intn) → Calls Try.prog 24 #[.slice A l.length c, .int .i64 (a : Nat), .int .i64 (n : Nat)] wz (GivesIB wz (behindM l a n))) := fun wz A c hr => refMBehind_any A c _ l (by omega) a n (by omega) wz (Nat.le_refl _) hr
    generalize behindM l a n = r at *
    rcases r with _ | x
    · go_enter Try.func29, Try.ntmps29
      go_wp2_with (first
        | (go_at_call 14; refine (refOf_any S hS (a : Nat) _).mono ?_; rw [HQ.out]; rintro e w1 ⟨rfl, b1⟩)
        | (go_at_call 47; refine (refMInLine_any S hS (q : Nat) arg _).mono ?_; rw [HLL.out]; rintro e w3 ⟨A3, c3, rfl, own3, b3⟩; replace b3 := b1.trans (b3.mono b1.size); have R3 := Lib.hid (Row.of_own own3); clear own3)
        | (go_at_call 24; refine (HA.out _ A3 c3 R3.out).mono ?_; rintro e w4 ⟨rfl, b4⟩; replace b4 := b3.trans (b4.mono b3.size)))
      go_ret2
      rw [← HE.out]
      exact ⟨rfl, b4⟩
    · go_enter Try.func29, Try.ntmps29
      go_wp2_with (first
        | (go_at_call 14; refine (refOf_any S hS (a : Nat) _).mono ?_; rw [HQ.out]; rintro e w1 ⟨rfl, b1⟩)
        | (go_at_call 47; refine (refMInLine_any S hS (q : Nat) arg _).mono ?_; rw [HLL.out]; rintro e w3 ⟨A3, c3, rfl, own3, b3⟩; replace b3 := b1.trans (b3.mono b1.size); have R3 := Lib.hid (Row.of_own own3); clear own3)
        | (go_at_call 24; refine (HA.out _ A3 c3 R3.out).mono ?_; rintro e w4 ⟨rfl, b4⟩; replace b4 := b3.trans (b4.mono b3.size)))
      go_ret2
      rw [← HE.out]
      exact ⟨rfl, b4⟩
  by_cases h2 : key = 116
  · subst h2
    have HE : Hid (((behindM l a n).map fun x => prevM S (x : Nat)) = v) := by have := HV.out; rwa [if_neg (by decide), if_pos rfl] at this
    clear HV
    have HA : Hid (∀ wz A c, Row wz wz.heap.size A (l.map intn) → Calls Try.prog 24 #[.slice A l.length c, .int .i64 (a : Nat), .int .i64 (n : Nat)] wz (GivesIB wz (behindM l a n))) := fun wz A c hr => refMBehind_any A c _ l (by omega) a n (by omega) wz (Nat.le_refl _) hr
    generalize behindM l a n = r at *
    rcases r with _ | x
    · go_enter Try.func29, Try.ntmps29
      go_wp2_with (first
        | (go_at_call 14; refine (refOf_any S hS (a : Nat) _).mono ?_; rw [HQ.out]; rintro e w1 ⟨rfl, b1⟩)
        | (go_at_call 47; refine (refMInLine_any S hS (q : Nat) arg _).mono ?_; rw [HLL.out]; rintro e w3 ⟨A3, c3, rfl, own3, b3⟩; replace b3 := b1.trans (b3.mono b1.size); have R3 := Lib.hid (Row.of_own own3); clear own3)
        | (go_at_call 24; refine (HA.out _ A3 c3 R3.out).mono ?_; rintro e w4 ⟨rfl, b4⟩; replace b4 := b3.trans (b4.mono b3.size)))
      go_ret2
      rw [← HE.out]
      exact ⟨rfl, b4⟩
    · go_enter Try.func29, Try.ntmps29
      go_wp2_with (first
        | (go_at_call 14; refine (refOf_any S hS (a : Nat) _).mono ?_; rw [HQ.out]; rintro e w1 ⟨rfl, b1⟩)
        | (go_at_call 47; refine (refMInLine_any S hS (q : Nat) arg _).mono ?_; rw [HLL.out]; rintro e w3 ⟨A3, c3, rfl, own3, b3⟩; replace b3 := b1.trans (b3.mono b1.size); have R3 := Lib.hid (Row.of_own own3); clear own3)
        | (go_at_call 24; refine (HA.out _ A3 c3 R3.out).mono ?_; rintro e w4 ⟨rfl, b4⟩; replace b4 := b3.trans (b4.mono b3.size))
        | (go_at_call 27; refine (refMPrev S hS (x : Nat) _).mono ?_; rintro e w6 ⟨rfl, b6⟩; replace b6 := b4.trans (b6.mono b4.size)))
      go_ret2
      rw [← HE.out]
      exact ⟨rfl, b6⟩
  by_cases h3 : key = 84
  · subst h3
    have HE : Hid (((aheadM l a n).map fun x => nextM S (x : Nat)) = v) := by have := HV.out; rwa [if_neg (by decide), if_neg (by decide), if_pos rfl] at this
    clear HV
    have HA : Hid (∀ wz A c, Row wz wz.heap.size A (l.map intn) → Calls Try.prog 48 #[.slice A l.length c, .int .i64 (a : Nat), .int .i64 (n : Nat)] wz (GivesIB wz (aheadM l a n))) := fun wz A c hr => refMAhead_any A c _ l (by omega) a n (by omega) wz (Nat.le_refl _) hr
    generalize aheadM l a n = r at *
    rcases r with _ | x
    · go_enter Try.func29, Try.ntmps29
      go_wp2_with (first
        | (go_at_call 14; refine (refOf_any S hS (a : Nat) _).mono ?_; rw [HQ.out]; rintro e w1 ⟨rfl, b1⟩)
        | (go_at_call 47; refine (refMInLine_any S hS (q : Nat) arg _).mono ?_; rw [HLL.out]; rintro e w3 ⟨A3, c3, rfl, own3, b3⟩; replace b3 := b1.trans (b3.mono b1.size); have R3 := Lib.hid (Row.of_own own3); clear own3)
        | (go_at_call 48; refine (HA.out _ A3 c3 R3.out).mono ?_; rintro e w4 ⟨rfl, b4⟩; replace b4 := b3.trans (b4.mono b3.size)))
      go_ret2
      rw [← HE.out]
      exact ⟨rfl, b4⟩
    · go_enter Try.func29, Try.ntmps29
      go_wp2_with (first
        | (go_at_call 14; refine (refOf_any S hS (a : Nat) _).mono ?_; rw [HQ.out]; rintro e w1 ⟨rfl, b1⟩)
        | (go_at_call 47; refine (refMInLine_any S hS (q : Nat) arg _).mono ?_; rw [HLL.out]; rintro e w3 ⟨A3, c3, rfl, own3, b3⟩; replace b3 := b1.trans (b3.mono b1.size); have R3 := Lib.hid (Row.of_own own3); clear own3)
        | (go_at_call 48; refine (HA.out _ A3 c3 R3.out).mono ?_; rintro e w4 ⟨rfl, b4⟩; replace b4 := b3.trans (b4.mono b3.size))
        | (go_at_call 15; refine (refMNext S hS (x : Nat) _).mono ?_; rintro e w6 ⟨rfl, b6⟩; replace b6 := b4.trans (b6.mono b4.size)))
      go_ret2
      rw [← HE.out]
      exact ⟨rfl, b6⟩
  have e1 : (key == 102) = false := by rw [beq_eq_false_iff_ne]; exact h1
  have e2 : (key == 116) = false := by rw [beq_eq_false_iff_ne]; exact h2
  have e3 : (key == 84) = false := by rw [beq_eq_false_iff_ne]; exact h3
  have HE : Hid (aheadM l a n = v) := by
    have := HV.out
    rwa [if_neg h1, if_neg h2, if_neg h3] at this
  clear h1 h2 h3 HV
  · have HA : Hid (∀ wz A c, Row wz wz.heap.size A (l.map intn) → Calls Try.prog 48 #[.slice A l.length c, .int .i64 (a : Nat), .int .i64 (n : Nat)] wz (GivesIB wz (aheadM l a n))) := fun wz A c hr => refMAhead_any A c _ l (by omega) a n (by omega) wz (Nat.le_refl _) hr
    generalize aheadM l a n = r at *
    rcases r with _ | x
    · go_enter Try.func29, Try.ntmps29
      go_wp2_with (first
        | (go_at_call 14; refine (refOf_any S hS (a : Nat) _).mono ?_; rw [HQ.out]; rintro e w1 ⟨rfl, b1⟩)
        | (go_at_call 47; refine (refMInLine_any S hS (q : Nat) arg _).mono ?_; rw [HLL.out]; rintro e w3 ⟨A3, c3, rfl, own3, b3⟩; replace b3 := b1.trans (b3.mono b1.size); have R3 := Lib.hid (Row.of_own own3); clear own3)
        | (go_at_call 48; refine (HA.out _ A3 c3 R3.out).mono ?_; rintro e w4 ⟨rfl, b4⟩; replace b4 := b3.trans (b4.mono b3.size)))
      go_ret2
      rw [← HE.out]
      exact ⟨rfl, b4⟩
    · go_enter Try.func29, Try.ntmps29
      go_wp2_with (first
        | (go_at_call 14; refine (refOf_any S hS (a : Nat) _).mono ?_; rw [HQ.out]; rintro e w1 ⟨rfl, b1⟩)
        | (go_at_call 47; refine (refMInLine_any S hS (q : Nat) arg _).mono ?_; rw [HLL.out]; rintro e w3 ⟨A3, c3, rfl, own3, b3⟩; replace b3 := b1.trans (b3.mono b1.size); have R3 := Lib.hid (Row.of_own own3); clear own3)
        | (go_at_call 48; refine (HA.out _ A3 c3 R3.out).mono ?_; rintro e w4 ⟨rfl, b4⟩; replace b4 := b3.trans (b4.mono b3.size)))
      go_ret2
      rw [← HE.out]
      exact ⟨rfl, b4⟩
end Go.Proofs.Ytckikigjleckeaa

/-
  The document's lines: j, k, G and g.
-/
namespace Go.Proofs.Ytckikigjleckeaa
open Go.RowKit

set_option maxHeartbeats 2000000 in
theorem refMLines_any (S : List UInt8) (hS : S.length ≤ 1000000) (a n : Nat) (_ha : a ≤ S.length) (hn : 1 ≤ n ∧ n ≤ 999) (key count : Int) (hc : -9223372036854775808 ≤ count ∧ count ≤ 9223372036854775807) (w : World) :
    Calls Try.prog 30 #[.string ⟨S.toArray⟩, .int .i64 (a : Nat), .int .i64 (n : Nat), .int .i64 key, .int .i64 count] w (GivesIB w (linesM S a n key count)) := by
  obtain ⟨v, hv⟩ : ∃ v, linesM S a n key count = v := ⟨_, rfl⟩
  rw [hv]
  have HV := Lib.hid hv
  clear hv
  unfold linesM at HV
  have hof := ofL_le S (a : Nat)
  have hcl := countL_le S
  obtain ⟨q, hq⟩ : ∃ q, ofL S (a : Nat) = q := ⟨_, rfl⟩
  obtain ⟨m, hm⟩ : ∃ m, countL S = m := ⟨_, rfl⟩
  rw [hq, hm] at hof
  rw [hm] at hcl HV
  have HQ := Lib.hid hq
  have HM := Lib.hid hm
  clear hq hm
  by_cases h1 : key = 106
  · subst h1
    have hl : lineM S a n 106 count = (q : Int) + n := by unfold lineM; rw [if_pos rfl, HQ.out]
    rw [hl] at HV
    clear hl
    by_cases hin : 0 ≤ (q : Int) + n ∧ (q : Int) + n < (m : Int)
    · have h1 : 0 ≤ (q : Int) + n := hin.1
      have h2 : (q : Int) + n < (m : Int) := hin.2
      have HE : Hid (some (placeL S ((q : Int) + n) (colM S (a : Nat) : Nat)) = v) := by have := HV.out; rwa [if_pos hin, if_pos (Or.inl rfl)] at this
      clear HV hin
      go_enter Try.func30, Try.ntmps30
      go_wp2_with (first
        | (go_at_call 14; refine (refOf_any S hS (a : Nat) _).mono ?_; rw [HQ.out]; rintro e w1 ⟨rfl, b1⟩)
        | (go_at_call 16; refine (refCount_any S hS _).mono ?_; rw [HM.out]; rintro e w2 ⟨rfl, b2⟩; replace b2 := b1.trans (b2.mono b1.size))
        | (go_at_call 55; refine (refMCol S hS (a : Nat) _).mono ?_; rintro e w3 ⟨rfl, b3⟩; replace b3 := b2.trans (b3.mono b2.size))
        | (go_at_call 54; refine (refPlace_any S hS ((q : Int) + n) (colM S (a : Nat) : Nat) _).mono ?_; rintro e w4 ⟨rfl, b4⟩; replace b4 := b3.trans (b4.mono b3.size)))
      go_ret2
      rw [← HE.out]
      exact ⟨rfl, b4⟩
    · have HE : Hid (none = v) := by have := HV.out; rwa [if_neg hin] at this
      clear HV
      have h1 : (m : Int) ≤ (q : Int) + n := by omega
      clear hin
      go_enter Try.func30, Try.ntmps30
      go_wp2_with (first
        | (go_at_call 14; refine (refOf_any S hS (a : Nat) _).mono ?_; rw [HQ.out]; rintro e w1 ⟨rfl, b1⟩)
        | (go_at_call 16; refine (refCount_any S hS _).mono ?_; rw [HM.out]; rintro e w2 ⟨rfl, b2⟩; replace b2 := b1.trans (b2.mono b1.size)))
      go_ret2
      rw [← HE.out]
      exact ⟨rfl, b2⟩
  by_cases h2 : key = 107
  · subst h2
    have hl : lineM S a n 107 count = (q : Int) - n := by unfold lineM; rw [if_neg (by decide), if_pos rfl, HQ.out]
    rw [hl] at HV
    clear hl
    by_cases hin : 0 ≤ (q : Int) - n ∧ (q : Int) - n < (m : Int)
    · have h1 : 0 ≤ (q : Int) - n := hin.1
      have h2 : (q : Int) - n < (m : Int) := hin.2
      have HE : Hid (some (placeL S ((q : Int) - n) (colM S (a : Nat) : Nat)) = v) := by have := HV.out; rwa [if_pos hin, if_pos (Or.inr rfl)] at this
      clear HV hin
      go_enter Try.func30, Try.ntmps30
      go_wp2_with (first
        | (go_at_call 14; refine (refOf_any S hS (a : Nat) _).mono ?_; rw [HQ.out]; rintro e w1 ⟨rfl, b1⟩)
        | (go_at_call 16; refine (refCount_any S hS _).mono ?_; rw [HM.out]; rintro e w2 ⟨rfl, b2⟩; replace b2 := b1.trans (b2.mono b1.size))
        | (go_at_call 55; refine (refMCol S hS (a : Nat) _).mono ?_; rintro e w3 ⟨rfl, b3⟩; replace b3 := b2.trans (b3.mono b2.size))
        | (go_at_call 54; refine (refPlace_any S hS ((q : Int) - n) (colM S (a : Nat) : Nat) _).mono ?_; rintro e w4 ⟨rfl, b4⟩; replace b4 := b3.trans (b4.mono b3.size)))
      go_ret2
      rw [← HE.out]
      exact ⟨rfl, b4⟩
    · have HE : Hid (none = v) := by have := HV.out; rwa [if_neg hin] at this
      clear HV
      have h1 : (q : Int) - n < 0 := by omega
      clear hin
      go_enter Try.func30, Try.ntmps30
      go_wp2_with (first
        | (go_at_call 14; refine (refOf_any S hS (a : Nat) _).mono ?_; rw [HQ.out]; rintro e w1 ⟨rfl, b1⟩)
        | (go_at_call 16; refine (refCount_any S hS _).mono ?_; rw [HM.out]; rintro e w2 ⟨rfl, b2⟩; replace b2 := b1.trans (b2.mono b1.size)))
      go_ret2
      rw [← HE.out]
      exact ⟨rfl, b2⟩
  have e1 : (key == 106) = false := by rw [beq_eq_false_iff_ne]; exact h1
  have e2 : (key == 107) = false := by rw [beq_eq_false_iff_ne]; exact h2
  have HJ : Hid (¬ (key = 106 ∨ key = 107)) := by rintro (h | h); exact h1 h; exact h2 h
  have H1 := Lib.hid h1
  have H2 := Lib.hid h2
  clear h1 h2
  by_cases hc1 : count < 1
  · by_cases h3 : key = 103
    · subst h3
      have hl : lineM S a n 103 count = (0 : Int) := by unfold lineM; rw [if_neg (by decide), if_neg (by decide), if_pos ⟨hc1, rfl⟩]
      rw [hl] at HV
      clear hl
      by_cases hin : 0 ≤ (0 : Int) ∧ (0 : Int) < (m : Int)
      · have h1 : 0 ≤ (0 : Int) := hin.1
        have h2 : (0 : Int) < (m : Int) := hin.2
        have HE : Hid (some (firstL S ((0 : Int))) = v) := by have := HV.out; rwa [if_pos hin, if_neg (show ¬ ((103 : Int) = 106 ∨ (103 : Int) = 107) by decide)] at this
        clear HV hin
        go_enter Try.func30, Try.ntmps30
        go_wp2_with (first
          | (go_at_call 14; refine (refOf_any S hS (a : Nat) _).mono ?_; rw [HQ.out]; rintro e w1 ⟨rfl, b1⟩)
          | (go_at_call 16; refine (refCount_any S hS _).mono ?_; rw [HM.out]; rintro e w2 ⟨rfl, b2⟩; replace b2 := b1.trans (b2.mono b1.size))
          | (go_at_call 49; refine (refFirst_any S hS ((0 : Int)) _).mono ?_; rintro e w4 ⟨rfl, b4⟩; replace b4 := b2.trans (b4.mono b2.size)))
        go_ret2
        rw [← HE.out]
        exact ⟨rfl, b4⟩
      · exfalso; omega
    · have e3 : (key == 103) = false := by rw [beq_eq_false_iff_ne]; exact h3
      have H3 := Lib.hid h3
      clear h3
      have hl : lineM S a n key count = (m : Int) - 1 := by unfold lineM; rw [if_neg H1.out, if_neg H2.out, if_neg (fun h => H3.out h.2), if_pos (Or.inl hc1), HM.out]
      rw [hl] at HV
      clear hl
      by_cases hin : 0 ≤ (m : Int) - 1 ∧ (m : Int) - 1 < (m : Int)
      · have h1 : 0 ≤ (m : Int) - 1 := hin.1
        have h2 : (m : Int) - 1 < (m : Int) := hin.2
        have HE : Hid (some (firstL S ((m : Int) - 1)) = v) := by have := HV.out; rwa [if_pos hin, if_neg HJ.out] at this
        clear HV hin
        go_enter Try.func30, Try.ntmps30
        go_wp2_with (first
          | (go_at_call 14; refine (refOf_any S hS (a : Nat) _).mono ?_; rw [HQ.out]; rintro e w1 ⟨rfl, b1⟩)
          | (go_at_call 16; refine (refCount_any S hS _).mono ?_; rw [HM.out]; rintro e w2 ⟨rfl, b2⟩; replace b2 := b1.trans (b2.mono b1.size))
          | (go_at_call 49; refine (refFirst_any S hS ((m : Int) - 1) _).mono ?_; rintro e w4 ⟨rfl, b4⟩; replace b4 := b2.trans (b4.mono b2.size)))
        go_ret2
        rw [← HE.out]
        exact ⟨rfl, b4⟩
      · exfalso; omega
  · by_cases hc2 : (m : Int) < count
    · have hl : lineM S a n key count = (m : Int) - 1 := by unfold lineM; rw [if_neg H1.out, if_neg H2.out, if_neg (fun h => hc1 h.1), if_pos (Or.inr (by rw [HM.out]; exact hc2)), HM.out]
      rw [hl] at HV
      clear hl
      by_cases hin : 0 ≤ (m : Int) - 1 ∧ (m : Int) - 1 < (m : Int)
      · have h1 : 0 ≤ (m : Int) - 1 := hin.1
        have h2 : (m : Int) - 1 < (m : Int) := hin.2
        have HE : Hid (some (firstL S ((m : Int) - 1)) = v) := by have := HV.out; rwa [if_pos hin, if_neg HJ.out] at this
        clear HV hin
        go_enter Try.func30, Try.ntmps30
        go_wp2_with (first
          | (go_at_call 14; refine (refOf_any S hS (a : Nat) _).mono ?_; rw [HQ.out]; rintro e w1 ⟨rfl, b1⟩)
          | (go_at_call 16; refine (refCount_any S hS _).mono ?_; rw [HM.out]; rintro e w2 ⟨rfl, b2⟩; replace b2 := b1.trans (b2.mono b1.size))
          | (go_at_call 49; refine (refFirst_any S hS ((m : Int) - 1) _).mono ?_; rintro e w4 ⟨rfl, b4⟩; replace b4 := b2.trans (b4.mono b2.size)))
        go_ret2
        rw [← HE.out]
        exact ⟨rfl, b4⟩
      · exfalso; omega
    · have hl : lineM S a n key count = count - 1 := by unfold lineM; rw [if_neg H1.out, if_neg H2.out, if_neg (fun h => hc1 h.1), if_neg (by rw [HM.out]; rintro (h | h); exact hc1 h; exact hc2 h)]
      rw [hl] at HV
      clear hl
      by_cases hin : 0 ≤ count - 1 ∧ count - 1 < (m : Int)
      · have h1 : 0 ≤ count - 1 := hin.1
        have h2 : count - 1 < (m : Int) := hin.2
        have HE : Hid (some (firstL S (count - 1)) = v) := by have := HV.out; rwa [if_pos hin, if_neg HJ.out] at this
        clear HV hin
        go_enter Try.func30, Try.ntmps30
        go_wp2_with (first
          | (go_at_call 14; refine (refOf_any S hS (a : Nat) _).mono ?_; rw [HQ.out]; rintro e w1 ⟨rfl, b1⟩)
          | (go_at_call 16; refine (refCount_any S hS _).mono ?_; rw [HM.out]; rintro e w2 ⟨rfl, b2⟩; replace b2 := b1.trans (b2.mono b1.size))
          | (go_at_call 49; refine (refFirst_any S hS (count - 1) _).mono ?_; rintro e w4 ⟨rfl, b4⟩; replace b4 := b2.trans (b4.mono b2.size)))
        go_ret2
        rw [← HE.out]
        exact ⟨rfl, b4⟩
      · exfalso; omega
end Go.Proofs.Ytckikigjleckeaa

/-
  The document's To.
-/
namespace Go.Proofs.Ytckikigjleckeaa
open Go.RowKit

theorem manyM_bounds (count : Int) : 1 ≤ manyM count ∧ manyM count ≤ 999 := by unfold manyM; omega
/-- the walks' spelling -/
theorem manyM_if (count : Int) : (if 999 < (if count < 1 then 1 else count) then 999 else (if count < 1 then 1 else count)) = ((manyM count : Nat) : Int) := by unfold manyM; omega
theorem refMInclF (x : Int) (w : World) : Calls Try.prog 28 #[.int .i64 x, .bool false] w (GivesIIB w none) := by
  go_enter Try.func28, Try.ntmps28
  go_wp2_with fail
  go_ret3
  exact ⟨rfl, Below.refl _ _⟩
set_option maxHeartbeats 8000000 in
theorem refMTo_any (S : List UInt8) (hS : S.length ≤ 1000000) (at_ key arg count : Int) (hc : -9223372036854775808 ≤ count ∧ count ≤ 9223372036854775807) (w : World) :
    Calls Try.prog 11 #[.string ⟨S.toArray⟩, .int .i64 at_, .int .i64 key, .int .i64 arg, .int .i64 count] w (GivesIIB w (toM S at_ key arg count)) := by
  have hale := alignM_le S at_
  have hnb := manyM_bounds count
  have hel := endsM_len S
  obtain ⟨v, hv⟩ : ∃ v, toM S at_ key arg count = v := ⟨_, rfl⟩
  rw [hv]
  have HV := Lib.hid hv
  clear hv
  unfold toM at HV
  generalize ha : alignM S at_ = a at *
  have HA := Lib.hid ha
  clear ha
  have HN := Lib.hid (manyM_if count)
  generalize manyM count = n at *
  dsimp only at HV
  go_enter Try.func11, Try.ntmps11
  go_upto_region 3 with (go_at_call 12; refine (refMAlign S hS at_ _).mono ?_; rw [HA.out]; rintro e w1 ⟨rfl, b1⟩)
  rw [HN.out]
  generalize (if count < 1 then (1 : Int) else count) = cm at *
  clear HN HA
  by_cases hk : key = 104
  · subst hk
    have HE : Hid (exclM a (sideM S a n 104) = v) := HV.out
    clear HV
    generalize hr : sideM S a n 104 = r at *
    have HR := Lib.hid hr
    clear hr
    go_wp2_with (first
      | (go_at_call 21; refine (refMSide_any S hS a n hale hnb 104 _).mono ?_; rw [HR.out]; rintro e w2 ⟨rfl, b2⟩; replace b2 := b1.trans (b2.mono b1.size))
      | (go_at_call 22; refine (refMExcl_any a r _).mono ?_; rintro e w3 ⟨rfl, b3⟩; replace b3 := b2.trans (b3.mono b2.size)))
    go_ret3
    rw [← HE.out]
    exact ⟨rfl, b3⟩
  have e104 : (key == 104) = false := by rw [beq_eq_false_iff_ne]; exact hk
  have K104 := Lib.hid hk
  clear hk
  by_cases hk : key = 108
  · subst hk
    have HE : Hid (exclM a (sideM S a n 108) = v) := HV.out
    clear HV
    generalize hr : sideM S a n 108 = r at *
    have HR := Lib.hid hr
    clear hr
    go_wp2_with (first
      | (go_at_call 21; refine (refMSide_any S hS a n hale hnb 108 _).mono ?_; rw [HR.out]; rintro e w2 ⟨rfl, b2⟩; replace b2 := b1.trans (b2.mono b1.size))
      | (go_at_call 22; refine (refMExcl_any a r _).mono ?_; rintro e w3 ⟨rfl, b3⟩; replace b3 := b2.trans (b3.mono b2.size)))
    go_ret3
    rw [← HE.out]
    exact ⟨rfl, b3⟩
  have e108 : (key == 108) = false := by rw [beq_eq_false_iff_ne]; exact hk
  have K108 := Lib.hid hk
  clear hk
  by_cases hk : key = 48
  · subst hk
    have HE : Hid (exclM a (sideM S a n 48) = v) := HV.out
    clear HV
    generalize hr : sideM S a n 48 = r at *
    have HR := Lib.hid hr
    clear hr
    go_wp2_with (first
      | (go_at_call 21; refine (refMSide_any S hS a n hale hnb 48 _).mono ?_; rw [HR.out]; rintro e w2 ⟨rfl, b2⟩; replace b2 := b1.trans (b2.mono b1.size))
      | (go_at_call 22; refine (refMExcl_any a r _).mono ?_; rintro e w3 ⟨rfl, b3⟩; replace b3 := b2.trans (b3.mono b2.size)))
    go_ret3
    rw [← HE.out]
    exact ⟨rfl, b3⟩
  have e48 : (key == 48) = false := by rw [beq_eq_false_iff_ne]; exact hk
  have K48 := Lib.hid hk
  clear hk
  by_cases hk : key = 94
  · subst hk
    have HE : Hid (exclM a (sideM S a n 94) = v) := HV.out
    clear HV
    generalize hr : sideM S a n 94 = r at *
    have HR := Lib.hid hr
    clear hr
    go_wp2_with (first
      | (go_at_call 21; refine (refMSide_any S hS a n hale hnb 94 _).mono ?_; rw [HR.out]; rintro e w2 ⟨rfl, b2⟩; replace b2 := b1.trans (b2.mono b1.size))
      | (go_at_call 22; refine (refMExcl_any a r _).mono ?_; rintro e w3 ⟨rfl, b3⟩; replace b3 := b2.trans (b3.mono b2.size)))
    go_ret3
    rw [← HE.out]
    exact ⟨rfl, b3⟩
  have e94 : (key == 94) = false := by rw [beq_eq_false_iff_ne]; exact hk
  have K94 := Lib.hid hk
  clear hk
  by_cases hk : key = 36
  · subst hk
    have HE : Hid (exclM a (sideM S a n 36) = v) := HV.out
    clear HV
    generalize hr : sideM S a n 36 = r at *
    have HR := Lib.hid hr
    clear hr
    go_wp2_with (first
      | (go_at_call 21; refine (refMSide_any S hS a n hale hnb 36 _).mono ?_; rw [HR.out]; rintro e w2 ⟨rfl, b2⟩; replace b2 := b1.trans (b2.mono b1.size))
      | (go_at_call 22; refine (refMExcl_any a r _).mono ?_; rintro e w3 ⟨rfl, b3⟩; replace b3 := b2.trans (b3.mono b2.size)))
    go_ret3
    rw [← HE.out]
    exact ⟨rfl, b3⟩
  have e36 : (key == 36) = false := by rw [beq_eq_false_iff_ne]; exact hk
  have K36 := Lib.hid hk
  clear hk
  by_cases hk : key = 119
  · subst hk
    have HE : Hid (exclM a (some (wordsM S a n 119)) = v) := HV.out
    clear HV
    generalize hr : wordsM S a n 119 = r at *
    have HR := Lib.hid hr
    clear hr
    go_wp2_with (first
      | (go_at_call 23; refine (refMWords_any S hS a n hale hnb 119 _).mono ?_; rw [HR.out]; rintro e w2 ⟨rfl, b2⟩; replace b2 := b1.trans (b2.mono b1.size))
      | (go_at_call 22; refine (refMExcl_any a (some r) _).mono ?_; rintro e w3 ⟨rfl, b3⟩; replace b3 := b2.trans (b3.mono b2.size)))
    go_ret3
    rw [← HE.out]
    exact ⟨rfl, b3⟩
  have e119 : (key == 119) = false := by rw [beq_eq_false_iff_ne]; exact hk
  have K119 := Lib.hid hk
  clear hk
  by_cases hk : key = 98
  · subst hk
    have HE : Hid (exclM a (some (wordsM S a n 98)) = v) := HV.out
    clear HV
    generalize hr : wordsM S a n 98 = r at *
    have HR := Lib.hid hr
    clear hr
    go_wp2_with (first
      | (go_at_call 23; refine (refMWords_any S hS a n hale hnb 98 _).mono ?_; rw [HR.out]; rintro e w2 ⟨rfl, b2⟩; replace b2 := b1.trans (b2.mono b1.size))
      | (go_at_call 22; refine (refMExcl_any a (some r) _).mono ?_; rintro e w3 ⟨rfl, b3⟩; replace b3 := b2.trans (b3.mono b2.size)))
    go_ret3
    rw [← HE.out]
    exact ⟨rfl, b3⟩
  have e98 : (key == 98) = false := by rw [beq_eq_false_iff_ne]; exact hk
  have K98 := Lib.hid hk
  clear hk
  by_cases hk : key = 123
  · subst hk
    have HE : Hid (exclM a (some (wordsM S a n 123)) = v) := HV.out
    clear HV
    generalize hr : wordsM S a n 123 = r at *
    have HR := Lib.hid hr
    clear hr
    go_wp2_with (first
      | (go_at_call 23; refine (refMWords_any S hS a n hale hnb 123 _).mono ?_; rw [HR.out]; rintro e w2 ⟨rfl, b2⟩; replace b2 := b1.trans (b2.mono b1.size))
      | (go_at_call 22; refine (refMExcl_any a (some r) _).mono ?_; rintro e w3 ⟨rfl, b3⟩; replace b3 := b2.trans (b3.mono b2.size)))
    go_ret3
    rw [← HE.out]
    exact ⟨rfl, b3⟩
  have e123 : (key == 123) = false := by rw [beq_eq_false_iff_ne]; exact hk
  have K123 := Lib.hid hk
  clear hk
  by_cases hk : key = 125
  · subst hk
    have HE : Hid (exclM a (some (wordsM S a n 125)) = v) := HV.out
    clear HV
    generalize hr : wordsM S a n 125 = r at *
    have HR := Lib.hid hr
    clear hr
    go_wp2_with (first
      | (go_at_call 23; refine (refMWords_any S hS a n hale hnb 125 _).mono ?_; rw [HR.out]; rintro e w2 ⟨rfl, b2⟩; replace b2 := b1.trans (b2.mono b1.size))
      | (go_at_call 22; refine (refMExcl_any a (some r) _).mono ?_; rintro e w3 ⟨rfl, b3⟩; replace b3 := b2.trans (b3.mono b2.size)))
    go_ret3
    rw [← HE.out]
    exact ⟨rfl, b3⟩
  have e125 : (key == 125) = false := by rw [beq_eq_false_iff_ne]; exact hk
  have K125 := Lib.hid hk
  clear hk
  by_cases hk : key = 101
  · subst hk
    have HE : Hid ((if a < (behindM (endsM (chars S)) a n).getD (prevM S (S.length : Nat)) then some ((behindM (endsM (chars S)) a n).getD (prevM S (S.length : Nat)), 1) else none) = v) := HV.out
    clear HV
    generalize hl : endsM (chars S) = l at *
    have HLL := Lib.hid hl
    clear hl
    have HA : Hid (∀ wz A c, Row wz wz.heap.size A (l.map intn) → Calls Try.prog 24 #[.slice A l.length c, .int .i64 (a : Nat), .int .i64 (n : Nat)] wz (GivesIB wz (behindM l a n))) := fun wz A c hr => refMBehind_any A c _ l (by omega) a n (by omega) wz (Nat.le_refl _) hr
    generalize behindM l a n = r at *
    generalize hp : prevM S ((S.length : Nat) : Int) = pv at *
    have HP := Lib.hid hp
    clear hp
    by_cases hx : a < r.getD pv
    · have hx' : (a : Int) < ((r.getD pv : Nat) : Int) := by omega
      have HE2 : Hid (some (r.getD pv, 1) = v) := by have := HE.out; rwa [if_pos hx] at this
      clear HE hx
      have HOR : Hid (∀ wz, Calls Try.prog 26 #[.int .i64 ((r.getD 0 : Nat) : Int), .bool r.isSome, .int .i64 (pv : Nat)] wz fun e w' => e = .returned (.int .i64 ((r.getD pv : Nat) : Int)) ∧ w' = wz) := fun wz => refMOrD r pv wz
      generalize r.getD pv = x at *
      go_wp2_with (first
        | (go_at_call 25; refine (refMEnds_any S hS _).mono ?_; rw [HLL.out]; rintro e w3 ⟨A3, c3, rfl, own3, b3⟩; replace b3 := b1.trans (b3.mono b1.size); have R3 := Lib.hid (Row.of_own own3); clear own3)
        | (go_at_call 24; refine (HA.out _ A3 c3 R3.out).mono ?_; rintro e w4 ⟨rfl, b4⟩; replace b4 := b3.trans (b4.mono b3.size))
        | (go_at_call 27; refine (refMPrev S hS (S.length : Nat) _).mono ?_; rw [HP.out]; rintro e w5 ⟨rfl, b5⟩; replace b5 := b4.trans (b5.mono b4.size))
        | (go_at_call 26; refine (HOR.out _).mono ?_; rintro e w6 ⟨rfl, hw⟩; subst w6)
        | (go_at_call 28; refine (refMIncl_any (some x) _).mono ?_; rintro e w7 ⟨rfl, b7⟩; replace b7 := b5.trans (b7.mono b5.size)))
      go_ret3
      rw [← HE2.out]
      exact ⟨rfl, b7⟩
    · have hx' : ¬ (a : Int) < ((r.getD pv : Nat) : Int) := by omega
      have HE2 : Hid (none = v) := by have := HE.out; rwa [if_neg hx] at this
      clear HE hx
      have HOR : Hid (∀ wz, Calls Try.prog 26 #[.int .i64 ((r.getD 0 : Nat) : Int), .bool r.isSome, .int .i64 (pv : Nat)] wz fun e w' => e = .returned (.int .i64 ((r.getD pv : Nat) : Int)) ∧ w' = wz) := fun wz => refMOrD r pv wz
      generalize r.getD pv = x at *
      have HDF : Hid (decide (a < x) = false) := decide_eq_false (by omega)
      go_wp2_with (first
        | (go_at_call 25; refine (refMEnds_any S hS _).mono ?_; rw [HLL.out]; rintro e w3 ⟨A3, c3, rfl, own3, b3⟩; replace b3 := b1.trans (b3.mono b1.size); have R3 := Lib.hid (Row.of_own own3); clear own3)
        | (go_at_call 24; refine (HA.out _ A3 c3 R3.out).mono ?_; rintro e w4 ⟨rfl, b4⟩; replace b4 := b3.trans (b4.mono b3.size))
        | (go_at_call 27; refine (refMPrev S hS (S.length : Nat) _).mono ?_; rw [HP.out]; rintro e w5 ⟨rfl, b5⟩; replace b5 := b4.trans (b5.mono b4.size))
        | (go_at_call 26; refine (HOR.out _).mono ?_; rintro e w6 ⟨rfl, hw⟩; subst w6)
        | (go_at_call 28; rw [HDF.out]; refine (refMInclF (x : Nat) _).mono ?_; rintro e w7 ⟨rfl, b7⟩; replace b7 := b5.trans (b7.mono b5.size)))
      go_ret3
      rw [← HE2.out]
      exact ⟨rfl, b7⟩
  have e101 : (key == 101) = false := by rw [beq_eq_false_iff_ne]; exact hk
  have K101 := Lib.hid hk
  clear hk
  by_cases hk : key = 102
  · subst hk
    have HE : Hid (inclM (findsM S a n 102 arg) = v) := HV.out
    clear HV
    generalize hr : findsM S a n 102 arg = r at *
    have HR := Lib.hid hr
    clear hr
    go_wp2_with (first
      | (go_at_call 29; refine (refMFinds_any S hS a n hale hnb 102 arg _).mono ?_; rw [HR.out]; rintro e w2 ⟨rfl, b2⟩; replace b2 := b1.trans (b2.mono b1.size))
      | (go_at_call 28; refine (refMIncl_any r _).mono ?_; rintro e w3 ⟨rfl, b3⟩; replace b3 := b2.trans (b3.mono b2.size)))
    go_ret3
    rw [← HE.out]
    exact ⟨rfl, b3⟩
  have e102 : (key == 102) = false := by rw [beq_eq_false_iff_ne]; exact hk
  have K102 := Lib.hid hk
  clear hk
  by_cases hk : key = 116
  · subst hk
    have HE : Hid (inclM (findsM S a n 116 arg) = v) := HV.out
    clear HV
    generalize hr : findsM S a n 116 arg = r at *
    have HR := Lib.hid hr
    clear hr
    go_wp2_with (first
      | (go_at_call 29; refine (refMFinds_any S hS a n hale hnb 116 arg _).mono ?_; rw [HR.out]; rintro e w2 ⟨rfl, b2⟩; replace b2 := b1.trans (b2.mono b1.size))
      | (go_at_call 28; refine (refMIncl_any r _).mono ?_; rintro e w3 ⟨rfl, b3⟩; replace b3 := b2.trans (b3.mono b2.size)))
    go_ret3
    rw [← HE.out]
    exact ⟨rfl, b3⟩
  have e116 : (key == 116) = false := by rw [beq_eq_false_iff_ne]; exact hk
  have K116 := Lib.hid hk
  clear hk
  by_cases hk : key = 70
  · subst hk
    have HE : Hid (exclM a (findsM S a n 70 arg) = v) := HV.out
    clear HV
    generalize hr : findsM S a n 70 arg = r at *
    have HR := Lib.hid hr
    clear hr
    go_wp2_with (first
      | (go_at_call 29; refine (refMFinds_any S hS a n hale hnb 70 arg _).mono ?_; rw [HR.out]; rintro e w2 ⟨rfl, b2⟩; replace b2 := b1.trans (b2.mono b1.size))
      | (go_at_call 22; refine (refMExcl_any a r _).mono ?_; rintro e w3 ⟨rfl, b3⟩; replace b3 := b2.trans (b3.mono b2.size)))
    go_ret3
    rw [← HE.out]
    exact ⟨rfl, b3⟩
  have e70 : (key == 70) = false := by rw [beq_eq_false_iff_ne]; exact hk
  have K70 := Lib.hid hk
  clear hk
  by_cases hk : key = 84
  · subst hk
    have HE : Hid (exclM a (findsM S a n 84 arg) = v) := HV.out
    clear HV
    generalize hr : findsM S a n 84 arg = r at *
    have HR := Lib.hid hr
    clear hr
    go_wp2_with (first
      | (go_at_call 29; refine (refMFinds_any S hS a n hale hnb 84 arg _).mono ?_; rw [HR.out]; rintro e w2 ⟨rfl, b2⟩; replace b2 := b1.trans (b2.mono b1.size))
      | (go_at_call 22; refine (refMExcl_any a r _).mono ?_; rintro e w3 ⟨rfl, b3⟩; replace b3 := b2.trans (b3.mono b2.size)))
    go_ret3
    rw [← HE.out]
    exact ⟨rfl, b3⟩
  have e84 : (key == 84) = false := by rw [beq_eq_false_iff_ne]; exact hk
  have K84 := Lib.hid hk
  clear hk
  by_cases hk : key = 106
  · subst hk
    have HE : Hid (((linesM S a n 106 count).map fun x => (x, 2)) = v) := HV.out
    clear HV
    generalize hr : linesM S a n 106 count = r at *
    have HR := Lib.hid hr
    clear hr
    rcases r with _ | x
    · go_wp2_with (first
        | (go_at_call 30; refine (refMLines_any S hS a n hale hnb 106 count hc _).mono ?_; rw [HR.out]; rintro e w2 ⟨rfl, b2⟩; replace b2 := b1.trans (b2.mono b1.size)))
      go_ret3
      rw [← HE.out]
      exact ⟨rfl, b2⟩
    · go_wp2_with (first
        | (go_at_call 30; refine (refMLines_any S hS a n hale hnb 106 count hc _).mono ?_; rw [HR.out]; rintro e w2 ⟨rfl, b2⟩; replace b2 := b1.trans (b2.mono b1.size)))
      go_ret3
      rw [← HE.out]
      exact ⟨rfl, b2⟩
  have e106 : (key == 106) = false := by rw [beq_eq_false_iff_ne]; exact hk
  have K106 := Lib.hid hk
  clear hk
  by_cases hk : key = 107
  · subst hk
    have HE : Hid (((linesM S a n 107 count).map fun x => (x, 2)) = v) := HV.out
    clear HV
    generalize hr : linesM S a n 107 count = r at *
    have HR := Lib.hid hr
    clear hr
    rcases r with _ | x
    · go_wp2_with (first
        | (go_at_call 30; refine (refMLines_any S hS a n hale hnb 107 count hc _).mono ?_; rw [HR.out]; rintro e w2 ⟨rfl, b2⟩; replace b2 := b1.trans (b2.mono b1.size)))
      go_ret3
      rw [← HE.out]
      exact ⟨rfl, b2⟩
    · go_wp2_with (first
        | (go_at_call 30; refine (refMLines_any S hS a n hale hnb 107 count hc _).mono ?_; rw [HR.out]; rintro e w2 ⟨rfl, b2⟩; replace b2 := b1.trans (b2.mono b1.size)))
      go_ret3
      rw [← HE.out]
      exact ⟨rfl, b2⟩
  have e107 : (key == 107) = false := by rw [beq_eq_false_iff_ne]; exact hk
  have K107 := Lib.hid hk
  clear hk
  by_cases hk : key = 71
  · subst hk
    have HE : Hid (((linesM S a n 71 count).map fun x => (x, 2)) = v) := HV.out
    clear HV
    generalize hr : linesM S a n 71 count = r at *
    have HR := Lib.hid hr
    clear hr
    rcases r with _ | x
    · go_wp2_with (first
        | (go_at_call 30; refine (refMLines_any S hS a n hale hnb 71 count hc _).mono ?_; rw [HR.out]; rintro e w2 ⟨rfl, b2⟩; replace b2 := b1.trans (b2.mono b1.size)))
      go_ret3
      rw [← HE.out]
      exact ⟨rfl, b2⟩
    · go_wp2_with (first
        | (go_at_call 30; refine (refMLines_any S hS a n hale hnb 71 count hc _).mono ?_; rw [HR.out]; rintro e w2 ⟨rfl, b2⟩; replace b2 := b1.trans (b2.mono b1.size)))
      go_ret3
      rw [← HE.out]
      exact ⟨rfl, b2⟩
  have e71 : (key == 71) = false := by rw [beq_eq_false_iff_ne]; exact hk
  have K71 := Lib.hid hk
  clear hk
  by_cases hk : key = 103
  · subst hk
    have HE : Hid (((linesM S a n 103 count).map fun x => (x, 2)) = v) := HV.out
    clear HV
    generalize hr : linesM S a n 103 count = r at *
    have HR := Lib.hid hr
    clear hr
    rcases r with _ | x
    · go_wp2_with (first
        | (go_at_call 30; refine (refMLines_any S hS a n hale hnb 103 count hc _).mono ?_; rw [HR.out]; rintro e w2 ⟨rfl, b2⟩; replace b2 := b1.trans (b2.mono b1.size)))
      go_ret3
      rw [← HE.out]
      exact ⟨rfl, b2⟩
    · go_wp2_with (first
        | (go_at_call 30; refine (refMLines_any S hS a n hale hnb 103 count hc _).mono ?_; rw [HR.out]; rintro e w2 ⟨rfl, b2⟩; replace b2 := b1.trans (b2.mono b1.size)))
      go_ret3
      rw [← HE.out]
      exact ⟨rfl, b2⟩
  have e103 : (key == 103) = false := by rw [beq_eq_false_iff_ne]; exact hk
  have K103 := Lib.hid hk
  clear hk
  have HE : Hid (none = v) := by
    have := HV.out
    rwa [if_neg (by rintro (h | h | h | h | h); exact K104.out h; exact K108.out h; exact K48.out h; exact K94.out h; exact K36.out h), if_neg (by rintro (h | h | h | h); exact K119.out h; exact K98.out h; exact K123.out h; exact K125.out h), if_neg K101.out, if_neg (by rintro (h | h); exact K102.out h; exact K116.out h), if_neg (by rintro (h | h); exact K70.out h; exact K84.out h), if_neg (by rintro (h | h | h | h); exact K106.out h; exact K107.out h; exact K71.out h; exact K103.out h)] at this
  clear HV
  go_wp2_with fail
  go_ret3
  rw [← HE.out]
  exact ⟨rfl, b1⟩
end Go.Proofs.Ytckikigjleckeaa

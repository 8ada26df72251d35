/-
  Merged: LinMath, LinEnds, LinBounds, LinStarts, LinCol, LinLines, LinClass, LinSigns, LinFirst, LinApart.
-/
import Derived.Test.YtgmeamefbfgbgaaDoorM02u
import Derived.Laws.OwnMore
import Derived.Deep.Cut
import Derived.OwnWalk
import Derived.Deep.QuietTactic
import Derived.Test.YtgmeamefbfgbgaaDoorM02v
/-
  Lines of a byte string: layer 6.
-/
namespace Go.Proofs.YtgmeamefbfgbgaaDoor
open Go.RowKit

/-- where the line ends stand, up to a place -/
def endsTo (S : List UInt8) : Nat → List Nat
  | 0 => []
  | k + 1 => endsTo S k ++ (if S[k]? = some 10 then [k] else [])
/-- the line ends, and the end of the text -/
def endsL (S : List UInt8) : List Nat := endsTo S S.length ++ [S.length]
def countL (S : List UInt8) : Nat := (endsTo S S.length).length + 1
def ofL (S : List UInt8) (at_ : Int) : Nat := (endsTo S (min S.length at_.toNat)).length
theorem endsTo_len (S : List UInt8) (k : Nat) : (endsTo S k).length ≤ k := by
  induction k with
  | zero => simp [endsTo]
  | succ k ih =>
    unfold endsTo
    rw [List.length_append]
    split
    · simp; omega
    · simp; omega
theorem endsTo_yes {S : List UInt8} {k : Nat} (h : k < S.length) (hb : S[k] = 10) : endsTo S (k + 1) = endsTo S k ++ [k] := by
  show endsTo S k ++ _ = _
  rw [if_pos (by rw [List.getElem?_eq_getElem h, hb])]
theorem endsTo_no {S : List UInt8} {k : Nat} (h : k < S.length) (hb : ¬ S[k] = 10) : endsTo S (k + 1) = endsTo S k := by
  show endsTo S k ++ _ = _
  rw [if_neg (by rw [List.getElem?_eq_getElem h]; simpa using hb), List.append_nil]
theorem endsL_len (S : List UInt8) : (endsL S).length = countL S := by simp [endsL, countL]
theorem countL_le (S : List UInt8) : countL S ≤ S.length + 1 := by have := endsTo_len S S.length; unfold countL; omega
theorem endsTo_lt (S : List UInt8) (k : Nat) : ∀ x ∈ endsTo S k, x < k := by
  induction k with
  | zero => intro x hx; simp [endsTo] at hx
  | succ k ih =>
    intro x hx
    unfold endsTo at hx
    rcases List.mem_append.1 hx with hx | hx
    · have := ih x hx; omega
    · split at hx
      · simp at hx; omega
      · simp at hx
theorem endsL_le (S : List UInt8) : ∀ x ∈ endsL S, x ≤ S.length := by
  intro x hx
  rcases List.mem_append.1 hx with hx | hx
  · have := endsTo_lt S S.length x hx; omega
  · simp at hx; omega
/-- where a line begins and ends, or the error -/
def boundsL (S : List UInt8) (n : Int) : (Nat × Nat) × Nat :=
  if 0 ≤ n ∧ n < (countL S : Int) then ((if n = 0 then 0 else (endsL S).getD (n.toNat - 1) 0 + 1, (endsL S).getD n.toNat 0), 0) else ((0, 0), 2)
end Go.Proofs.YtgmeamefbfgbgaaDoor

/-
  Contracts of the document's own answers, layer 6: Ends, Count, Of.
-/
namespace Go.Proofs.YtgmeamefbfgbgaaDoor
open Go.RowKit

theorem nl_yes {b : UInt8} (h : b = 10) : ((b.toNat : Int) == 10) = true := by subst h; rfl
theorem nl_no {b : UInt8} (h : ¬ b = 10) : ((b.toNat : Int) == 10) = false := by
  have : b.toNat ≠ 10 := fun e => h (UInt8.toNat_inj.1 e)
  simpa using by omega

set_option maxHeartbeats 1000000 in
theorem refEnds_any (S : List UInt8) (hs : S.length ≤ 1000000) (w : World) :
    Calls Tryd.prog 68 #[.string ⟨S.toArray⟩] w fun e w' => ∃ A c, e = .returned (.slice A (endsL S).length c) ∧ w'.ownsRow w.heap.size 3 1 (.slice A (endsL S).length c) (endsL S).length ((endsL S).map intn) ∧ Below w.heap.size w w' := by
  go_enter Tryd.func68, Tryd.ntmps68
  go_wp2_with fail
  go_loopw [3, 4] (fun v i wr => ∃ k : Nat, k ≤ S.length ∧ i = .int .i64 k ∧ wr.ownsRow w.heap.size 3 1 v (endsTo S k).length ((endsTo S k).map intn) ∧ Below w.heap.size w wr) (fun _ i _ => S.length - (intOf i).toNat)
  case atStart => exact ⟨0, Nat.zero_le _, rfl, World.ownsRow_nil _ _ _ _, Below.refl _ _⟩
  case round =>
    obtain ⟨k, hk, rfl, hown, hb⟩ := hrel
    have z := hb.size
    have hel := endsTo_len S k
    by_cases hlt : k < S.length
    · have hg := byte_at S k hlt
      by_cases hb10 : S[k] = 10
      · have HT := Lib.hid (endsTo_yes hlt hb10)
        have hnl := nl_yes hb10
        have HB10 := Lib.hid hb10
        clear hb10
        generalize S[k] = b at *
        obtain ⟨A1, c1, rfl⟩ := own_form hown
        generalize hE : endsTo S k = E at *
        have HEE := Lib.hid hE
        clear hE
        go_wp2_with (at_builtin; refine wpList_push rfl _ _ _ rfl w.heap.size 3 _ 8 elt_int _ _ _ _ rfl hown (.int .i64 (k : Nat)) rfl rfl (by unfold maxLen; omega) (by omega) z ?_; intro v2 w2 hown2 hb2)
        go_roundw
        case rel => exact ⟨k + 1, by omega, by go_num, by rw [HT.out, List.length_append, List.map_append]; exact hown2, hb.trans hb2⟩
        case measure => simp [intOf]; omega
      · have HT := Lib.hid (endsTo_no hlt hb10)
        have hnl := nl_no hb10
        clear hb10
        generalize S[k] = b at *
        go_wp2_with fail
        go_roundw
        case rel => exact ⟨k + 1, by omega, by go_num, by rw [HT.out]; exact hown, hb⟩
        case measure => simp [intOf]; omega
    · obtain rfl : k = S.length := by omega
      obtain ⟨A1, c1, rfl⟩ := own_form hown
      have HEL : Hid (endsL S = endsTo S S.length ++ [S.length]) := rfl
      generalize endsTo S S.length = E at *
      go_wp2_with (at_builtin; refine wpList_push rfl _ _ _ rfl w.heap.size 3 _ 8 elt_int _ _ _ _ rfl hown (.int .i64 (S.length : Nat)) rfl rfl (by unfold maxLen; omega) (by omega) z ?_; intro v2 w2 hown2 hb2)
      go_ret
      obtain ⟨A2, c2, rfl⟩ := own_form hown2
      refine ⟨A2, c2, ?_, ?_, hb.trans hb2⟩
      · rw [HEL.out, List.length_append]; rfl
      · rw [HEL.out, List.length_append, List.map_append]; exact hown2

theorem refCount_any (S : List UInt8) (hs : S.length ≤ 1000000) (w : World) :
    Calls Tryd.prog 66 #[.string ⟨S.toArray⟩] w fun e w' => e = .returned (.int .i64 (countL S : Nat)) ∧ Below w.heap.size w w' := by
  have HL := Lib.hid (endsL_len S)
  go_enter Tryd.func66, Tryd.ntmps66
  go_wp2_with (go_at_call 68; refine (refEnds_any S hs _).mono ?_; rintro e w1 ⟨A, c, rfl, hown, hb⟩)
  go_ret
  exact ⟨by rw [← HL.out]; rfl, hb⟩

end Go.Proofs.YtgmeamefbfgbgaaDoor

/-
  Contracts of the document's own answers, layer 6: Bounds.
-/
namespace Go.Proofs.YtgmeamefbfgbgaaDoor
open Go.RowKit

theorem boundsL_out {S : List UInt8} {n : Int} (h : ¬ (0 ≤ n ∧ n < (countL S : Int))) : boundsL S n = ((0, 0), 2) := if_neg h
theorem boundsL_zero {S : List UInt8} : boundsL S 0 = ((0, (endsL S).getD 0 0), 0) := by
  have : 0 < countL S := by unfold countL; omega
  unfold boundsL
  rw [if_pos ⟨Int.le_refl _, by omega⟩, if_pos rfl]
  rfl
theorem boundsL_succ {S : List UInt8} {m : Nat} (h : m + 1 < countL S) : boundsL S ((m + 1 : Nat) : Int) = (((endsL S).getD m 0 + 1, (endsL S).getD (m + 1) 0), 0) := by
  unfold boundsL
  rw [if_pos ⟨by omega, by omega⟩, if_neg (by omega), Int.toNat_natCast, Nat.add_sub_cancel]

/-- two places and an error are the answer -/
def Gives3 (w : World) (r : (Nat × Nat) × Nat) (e : Ending) (w' : World) : Prop := e = .returned (.tuple #[.int .i64 (r.1.1 : Nat), .int .i64 (r.1.2 : Nat), .int .i64 (r.2 : Nat)]) ∧ Below w.heap.size w w'
theorem own_atL {w : World} {b c : Nat} {A : Option Addr} {l : List Nat} (h : w.ownsRow b 3 1 (.slice A l.length c) l.length (l.map intn)) (hl : 0 < l.length) : ∃ g, A = some ⟨g, 0, none⟩ ∧ ∀ (j : Nat) (hj : j < l.length), w.cell? ⟨g, j, none⟩ = some (.int .i64 (l[j] : Nat)) := by
  obtain ⟨g, rfl⟩ : ∃ g, A = some ⟨g, 0, none⟩ := by
    rcases h.2 with ⟨_, h⟩ | ⟨g, _, _, h, _⟩
    · omega
    · injection h with h1; exact ⟨g, h1⟩
  exact ⟨g, rfl, fun j hj => (h.cellAt j (by omega)).trans (by simp [intn, hj])⟩

set_option maxHeartbeats 1000000 in
theorem refBounds_any (S : List UInt8) (hs : S.length ≤ 1000000) (n : Int) (w : World) :
    Calls Tryd.prog 34 #[.string ⟨S.toArray⟩, .int .i64 n] w (Gives3 w (boundsL S n)) := by
  have hL := endsL_len S
  have hcl := countL_le S
  have hle := endsL_le S
  have HLE := Lib.hid hle
  clear hle
  by_cases hr : 0 ≤ n ∧ n < (countL S : Int)
  · obtain ⟨N, rfl⟩ : ∃ N : Nat, n = (N : Int) := ⟨n.toNat, by omega⟩
    have hN : N < countL S := by omega
    rcases N with _ | m
    · have HR := Lib.hid (boundsL_zero (S := S))
      clear hr
      go_enter Tryd.func34, Tryd.ntmps34
      go_upto_region 2 with (go_at_call 68; refine (refEnds_any S hs _).mono ?_; rintro e w1 ⟨A, c, rfl, hown, hb⟩)
      obtain ⟨g, rfl, hc⟩ := own_atL hown (by omega)
      have c0 := hc 0 (by omega)
      have HG : Hid ((endsL S).getD 0 0 = (endsL S)[0]'(by omega)) := by show List.getD _ _ _ = _; rw [List.getD_eq_getElem?_getD, List.getElem?_eq_getElem (by omega)]; rfl
      have hl0 : (0 : Int) < ((endsL S).length : Int) := by omega
      have hl1 : ¬ ((endsL S).length : Int) ≤ 0 := by omega
      generalize (endsL S)[0]'(by omega) = x at *
      clear hc hown
      go_wp2_with fail
      go_quiet (fail)
      go_wp2
      go_ret3
      exact ⟨by rw [show (((0 : Nat) : Int)) = 0 from rfl, HR.out, HG.out]; rfl, below_drewN hb _⟩
    · have HR := Lib.hid (boundsL_succ hN)
      clear hr
      go_enter Tryd.func34, Tryd.ntmps34
      go_upto_region 2 with (go_at_call 68; refine (refEnds_any S hs _).mono ?_; rintro e w1 ⟨A, c, rfl, hown, hb⟩)
      obtain ⟨g, rfl, hc⟩ := own_atL hown (by omega)
      have c0 := hc m (by omega)
      have c1 := hc (m + 1) (by omega)
      have hx := HLE.out _ (List.getElem_mem (show m < (endsL S).length by omega))
      have HG : Hid ((endsL S).getD m 0 = (endsL S)[m]'(by omega) ∧ (endsL S).getD (m + 1) 0 = (endsL S)[m + 1]'(by omega)) := by
        constructor
        · rw [List.getD_eq_getElem?_getD, List.getElem?_eq_getElem (by omega)]; rfl
        · rw [List.getD_eq_getElem?_getD, List.getElem?_eq_getElem (by omega)]; rfl
      have hl0 : (m : Int) < ((endsL S).length : Int) := by omega
      have hl1 : (m : Int) + 1 < ((endsL S).length : Int) := by omega
      have hm0 : (0 : Int) ≤ (m : Int) := by omega
      have hm1 : (0 : Int) ≤ (m : Int) + 1 := by omega
      have hm2 : ¬ (m : Int) + 1 = 0 := by omega
      have hm3 : ¬ (m : Int) + 1 < 0 := by omega
      have hww := wrap_small (m : Int) (by omega) (by omega)
      generalize (endsL S)[m]'(by omega) = x at *
      generalize (endsL S)[m + 1]'(by omega) = y at *
      have hwx := wrap_small ((x : Int) + 1) (by omega) (by omega)
      clear hc hown
      go_wp2_with fail
      go_quiet (fail)
      go_wp2
      go_ret3
      exact ⟨by rw [HR.out, HG.out.1, HG.out.2]; rfl, below_drewN hb _⟩
  · have HR := Lib.hid (boundsL_out hr)
    by_cases h0 : n < 0
    · go_enter Tryd.func34, Tryd.ntmps34
      go_wp2_with (go_at_call 68; refine (refEnds_any S hs _).mono ?_; rintro e w1 ⟨A, c, rfl, hown, hb⟩)
      go_ret3
      exact ⟨by rw [HR.out]; rfl, hb⟩
    · have h1 : ((endsL S).length : Int) ≤ n := by omega
      go_enter Tryd.func34, Tryd.ntmps34
      go_wp2_with (go_at_call 68; refine (refEnds_any S hs _).mono ?_; rintro e w1 ⟨A, c, rfl, hown, hb⟩)
      go_ret3
      exact ⟨by rw [HR.out]; rfl, hb⟩
end Go.Proofs.YtgmeamefbfgbgaaDoor

/-
  Contracts of the document's own answers, layer 6: starts, brought, last, Place.
-/
namespace Go.Proofs.YtgmeamefbfgbgaaDoor
open Go.RowKit

def inLine (S : List UInt8) (n : Int) (x : Nat) : Bool := decide ((boundsL S n).1.1 ≤ x) && decide (x < (boundsL S n).1.2)
/-- where the signs of a line begin -/
def startsL (S : List UInt8) (n : Int) : List Nat := (startsAt 0 (chars S)).filter (inLine S n)
theorem filter_take {α : Type} (l : List α) (p : α → Bool) (k : Nat) (h : k < l.length) : (l.take (k + 1)).filter p = (l.take k).filter p ++ (if p l[k] = true then [l[k]] else []) := by
  rw [List.take_succ_eq_append_getElem h, List.filter_append]
  congr 1
  by_cases hp : p l[k] = true
  · rw [if_pos hp]; simp [hp]
  · rw [if_neg hp]; simp [hp]
theorem starts_le (S : List UInt8) : ∀ x ∈ startsAt 0 (chars S), x ≤ S.length := by
  intro x hx
  obtain ⟨k, hk, rfl⟩ := List.getElem_of_mem hx
  have hk' : k < (chars S).length := by rw [startsAt_len] at hk; exact hk
  rw [startsAt_get (chars S) k hk']
  have := width_le_take (chars S) k
  rw [width_chars] at this
  exact this

/-- a line's number, clamped -/
def broughtL (S : List UInt8) (n : Int) : Nat := min n.toNat (countL S - 1)
theorem countL_pos (S : List UInt8) : 0 < countL S := by unfold countL; omega
/-- a line's last sign -/
def lastL (S : List UInt8) (n : Int) : Nat := if startsL S n = [] then (boundsL S n).1.1 else (startsL S n).getD ((startsL S n).length - 1) 0
theorem startsL_len (S : List UInt8) (n : Int) : (startsL S n).length ≤ S.length := by
  have h := List.length_filter_le (inLine S n) (startsAt 0 (chars S))
  have h2 : (startsAt 0 (chars S)).length = (chars S).length := startsAt_len _ _
  have h3 := chars_len S
  unfold startsL
  omega
/-- the place of a column -/
def placeL (S : List UInt8) (n col : Int) : Nat := if col.toNat < (startsL S (broughtL S n)).length then (startsL S (broughtL S n)).getD col.toNat 0 else lastL S (broughtL S n)
end Go.Proofs.YtgmeamefbfgbgaaDoor

/-
  Contracts of the document's own answers, layer 6: Col.
-/
namespace Go.Proofs.YtgmeamefbfgbgaaDoor
open Go.RowKit

/-- the column of a place at which a sign begins -/
def colAt (S : List UInt8) (a : Nat) : Nat := ((startsL S (ofL S a)).filter (fun x => decide (x < a))).length

/-- the bytes that go with whole lines -/
def wholeL (S : List UInt8) (a b : Int) : (Nat × Nat) × Nat :=
  if 0 ≤ a ∧ a ≤ b ∧ b < (countL S : Int) then
    (if b + 1 < (countL S : Int) then (((boundsL S a).1.1, (boundsL S (b + 1)).1.1), 0) else if 0 < a then (((boundsL S a).1.1 - 1, S.length), 0) else ((0, S.length), 0))
  else ((0, 0), 2)
theorem wholeL_bad {S : List UInt8} {a b : Int} (h : ¬ (0 ≤ a ∧ a ≤ b ∧ b < (countL S : Int))) : wholeL S a b = ((0, 0), 2) := if_neg h
theorem wholeL_good {S : List UInt8} {a b : Int} (h : 0 ≤ a ∧ a ≤ b ∧ b < (countL S : Int)) : wholeL S a b = (if b + 1 < (countL S : Int) then (((boundsL S a).1.1, (boundsL S (b + 1)).1.1), 0) else if 0 < a then (((boundsL S a).1.1 - 1, S.length), 0) else ((0, S.length), 0)) := if_pos h
theorem boundsL_pos {S : List UInt8} {a : Int} (h : 0 < a) (h2 : a < (countL S : Int)) : 0 < (boundsL S a).1.1 ∧ (boundsL S a).1.1 ≤ S.length + 1 := by
  obtain ⟨m, rfl⟩ : ∃ m : Nat, a = ((m + 1 : Nat) : Int) := ⟨a.toNat - 1, by omega⟩
  have hm : m + 1 < countL S := by omega
  rw [boundsL_succ hm]
  have hl := endsL_len S
  refine ⟨by show 0 < _ + 1; omega, ?_⟩
  have hx := endsL_le S _ (List.getElem_mem (show m < (endsL S).length by omega))
  show List.getD _ _ _ + 1 ≤ _
  rw [List.getD_eq_getElem?_getD, List.getElem?_eq_getElem (by omega)]
  show (endsL S)[m] + 1 ≤ _
  omega

attribute [local irreducible] boundsL countL wholeL
end Go.Proofs.YtgmeamefbfgbgaaDoor

/-
  The lines of a byte string as a list: layer 6. No program here.
-/
namespace Go.Proofs.YtgmeamefbfgbgaaDoor
open Go.RowKit

/-- the lines of a text -/
def linesOf : List UInt8 → List (List UInt8)
  | [] => [[]]
  | b :: t => if b = 10 then [] :: linesOf t else (b :: (linesOf t).headD []) :: (linesOf t).tail
theorem linesOf_ne (t : List UInt8) : linesOf t ≠ [] := by
  cases t with
  | nil => simp [linesOf]
  | cons b t => unfold linesOf; split <;> simp
theorem linesOf_app (l r : List UInt8) : linesOf (l ++ 10 :: r) = linesOf l ++ linesOf r := by
  induction l with
  | nil => simp [linesOf]
  | cons b t ih =>
    rw [List.cons_append]
    by_cases hb : b = 10
    · simp only [linesOf, if_pos hb, ih, List.cons_append]
    · simp only [linesOf, if_neg hb, ih]
      have hn := linesOf_ne t
      cases hl : linesOf t with
      | nil => exact absurd hl hn
      | cons x xs => simp
theorem linesOf_len (t : List UInt8) : (linesOf t).length = t.count 10 + 1 := by
  induction t with
  | nil => rfl
  | cons b t ih =>
    by_cases hb : b = 10
    · subst hb; simp [linesOf, ih]
    · have hn := linesOf_ne t
      have hl : 0 < (linesOf t).length := List.length_pos_iff.2 hn
      simp only [linesOf, if_neg hb, List.length_cons, List.length_tail, ih]
      rw [List.count_cons_of_ne hb]; omega
/-- the first line goes up to the first line end -/
theorem linesOf_head : ∀ (m : Nat) (t : List UInt8), (∀ x, x < m → t[x]? ≠ some 10) → (m = t.length ∨ t[m]? = some 10) → (linesOf t).headD [] = t.take m := by
  intro m
  induction m with
  | zero =>
    intro t _ h
    cases t with
    | nil => rfl
    | cons b t =>
      rcases h with h | h
      · simp at h
      · obtain rfl : b = 10 := by simpa using h
        simp [linesOf]
  | succ m ih =>
    intro t h1 h2
    cases t with
    | nil => simp [linesOf]
    | cons b t =>
      have hb : b ≠ 10 := by have := h1 0 (by omega); simpa using this
      have h := ih t (fun x hx => by have := h1 (x + 1) (by omega); simpa using this) (by simpa using h2)
      simp only [linesOf, if_neg hb, List.take_succ_cons, List.headD_cons, h]

theorem endsTo_more (S : List UInt8) {i k : Nat} (h : i ≤ k) : ∃ r, endsTo S k = endsTo S i ++ r := by
  induction k with
  | zero => exact ⟨[], by rw [show i = 0 by omega]; simp⟩
  | succ k ih =>
    rcases Nat.lt_or_ge i (k + 1) with hi | hi
    · obtain ⟨r, hr⟩ := ih (by omega)
      exact ⟨r ++ (if S[k]? = some 10 then [k] else []), by rw [← List.append_assoc, ← hr]; rfl⟩
    · exact ⟨[], by rw [show i = k + 1 by omega]; simp⟩
theorem endsTo_mono (S : List UInt8) {i k : Nat} (h : i ≤ k) : (endsTo S i).length ≤ (endsTo S k).length := by
  obtain ⟨r, hr⟩ := endsTo_more S h
  rw [hr, List.length_append]; omega
theorem endsTo_one {S : List UInt8} {x : Nat} (h : S[x]? = some 10) : endsTo S (x + 1) = endsTo S x ++ [x] := by
  show endsTo S x ++ _ = _
  rw [if_pos h]
theorem endsTo_get {S : List UInt8} : ∀ (k j x : Nat), (endsTo S k)[j]? = some x → x < k ∧ S[x]? = some 10 ∧ (endsTo S x).length = j := by
  intro k
  induction k with
  | zero => intro j x h; simp [endsTo] at h
  | succ k ih =>
    intro j x h
    unfold endsTo at h
    rcases Nat.lt_or_ge j (endsTo S k).length with hj | hj
    · rw [List.getElem?_append_left hj] at h
      obtain ⟨h1, h2, h3⟩ := ih j x h
      exact ⟨by omega, h2, h3⟩
    · rw [List.getElem?_append_right hj] at h
      split at h
      · rename_i h10
        rcases Nat.eq_zero_or_pos (j - (endsTo S k).length) with h0 | h0
        · rw [h0] at h
          obtain rfl : k = x := by simpa using h
          exact ⟨by omega, h10, by omega⟩
        · rw [List.getElem?_eq_none (by simp; omega)] at h; cases h
      · simp at h
theorem endsTo_has {S : List UInt8} {x k : Nat} (hk : x < k) (h : S[x]? = some 10) : (endsTo S k)[(endsTo S x).length]? = some x := by
  obtain ⟨r, hr⟩ := endsTo_more S (show x + 1 ≤ k by omega)
  rw [hr, endsTo_one h]
  simp
theorem endsTo_count (S : List UInt8) (k : Nat) : (endsTo S k).length = (S.take k).count 10 := by
  induction k with
  | zero => simp [endsTo]
  | succ k ih =>
    unfold endsTo
    rw [List.length_append, ih, List.take_add_one, List.count_append]
    congr 1
    cases h : S[k]? with
    | none => simp
    | some b =>
      by_cases hb : b = 10
      · subst hb; simp
      · simp [hb]
theorem countL_count (S : List UInt8) : countL S = S.count 10 + 1 := by
  unfold countL; rw [endsTo_count, List.take_length]

/-- where a line begins, and where it ends -/
def begL (S : List UInt8) (n : Nat) : Nat := if n = 0 then 0 else (endsL S).getD (n - 1) 0 + 1
def endL (S : List UInt8) (n : Nat) : Nat := (endsL S).getD n 0
theorem boundsL_nat {S : List UInt8} {n : Nat} (h : n < countL S) : boundsL S (n : Int) = ((begL S n, endL S n), 0) := by
  unfold boundsL begL endL
  rw [if_pos ⟨by omega, by omega⟩, Int.toNat_natCast]
  by_cases h0 : n = 0
  · rw [if_pos (by omega), if_pos h0]
  · rw [if_neg (by omega), if_neg h0]
theorem ends_inner {S : List UInt8} {n : Nat} (h : n + 1 < countL S) : S[endL S n]? = some 10 ∧ endL S n < S.length ∧ (endsTo S (endL S n)).length = n := by
  unfold countL at h
  have hn : n < (endsTo S S.length).length := by omega
  have e : (endsTo S S.length)[n]? = some (endL S n) := by
    unfold endL endsL
    rw [List.getD_eq_getElem?_getD, List.getElem?_append_left hn, List.getElem?_eq_getElem hn]; rfl
  obtain ⟨h1, h2, h3⟩ := endsTo_get _ _ _ e
  exact ⟨h2, h1, h3⟩
theorem ends_last {S : List UInt8} {n : Nat} (h : n + 1 = countL S) : endL S n = S.length := by
  unfold countL at h
  unfold endL endsL
  rw [List.getD_eq_getElem?_getD, List.getElem?_append_right (by omega), show n - (endsTo S S.length).length = 0 by omega]; rfl
theorem beg_zero (S : List UInt8) : begL S 0 = 0 := if_pos rfl
theorem beg_succ (S : List UInt8) (n : Nat) : begL S (n + 1) = endL S n + 1 := by unfold begL; rw [if_neg (by omega)]; rfl
theorem beg_ends {S : List UInt8} {n : Nat} (h : n < countL S) : (endsTo S (begL S n)).length = n := by
  cases n with
  | zero => rw [beg_zero]; rfl
  | succ n =>
    obtain ⟨h1, h2, h3⟩ := ends_inner (n := n) h
    rw [beg_succ, endsTo_one h1, List.length_append, h3]; rfl
theorem beg_le {S : List UInt8} {n : Nat} (h : n < countL S) : begL S n ≤ S.length := by
  cases n with
  | zero => rw [beg_zero]; omega
  | succ n =>
    obtain ⟨h1, h2, h3⟩ := ends_inner (n := n) h
    rw [beg_succ]; omega
theorem end_le {S : List UInt8} {n : Nat} (h : n < countL S) : endL S n ≤ S.length := by
  by_cases h1 : n + 1 < countL S
  · have := (ends_inner h1).2.1; omega
  · rw [ends_last (by omega)]; exact Nat.le_refl _
theorem end_is {S : List UInt8} {n : Nat} (h : n < countL S) : endL S n = S.length ∨ S[endL S n]? = some 10 := by
  by_cases h1 : n + 1 < countL S
  · exact .inr (ends_inner h1).1
  · exact .inl (ends_last (by omega))
/-- a place lies in the line of which number there are line ends before it -/
theorem place_line {S : List UInt8} {a : Nat} (ha : a ≤ S.length) : (endsTo S a).length < countL S ∧ begL S (endsTo S a).length ≤ a ∧ a ≤ endL S (endsTo S a).length := by
  have h0 := endsTo_mono S ha
  have hlt : (endsTo S a).length < countL S := by unfold countL; omega
  refine ⟨hlt, ?_, ?_⟩
  · cases hn : (endsTo S a).length with
    | zero => rw [beg_zero]; omega
    | succ n =>
      rw [hn] at hlt
      obtain ⟨h1, h2, h3⟩ := ends_inner (n := n) hlt
      rw [beg_succ]
      rcases Nat.lt_or_ge (endL S n) a with h | h
      · omega
      · have := endsTo_mono S h; omega
  · by_cases h1 : (endsTo S a).length + 1 < countL S
    · obtain ⟨h1, h2, h3⟩ := ends_inner h1
      rcases Nat.lt_or_ge (endL S (endsTo S a).length) a with h | h
      · have := endsTo_mono S h
        rw [endsTo_one h1, List.length_append, h3] at this
        simp at this
        omega
      · exact h
    · rw [ends_last (by omega)]; exact ha
theorem beg_end {S : List UInt8} {n : Nat} (h : n < countL S) : begL S n ≤ endL S n := by
  have := (place_line (beg_le h)).2.2
  rwa [beg_ends h] at this
/-- within a line there is no line end -/
theorem line_clear {S : List UInt8} {n x : Nat} (h : n < countL S) (h1 : begL S n ≤ x) (h2 : x < endL S n) : S[x]? ≠ some 10 := by
  intro h10
  have a1 := endsTo_mono S h1
  rw [beg_ends h] at a1
  have a2 := endsTo_mono S (show x + 1 ≤ endL S n by omega)
  rw [endsTo_one h10, List.length_append] at a2
  have a3 : (endsTo S (endL S n)).length ≤ n := by
    by_cases hl : n + 1 < countL S
    · rw [(ends_inner hl).2.2]; exact Nat.le_refl _
    · rw [ends_last (by omega)]; unfold countL at *; omega
  simp at a2; omega

/-- the line of a number -/
def lineL (S : List UInt8) (n : Nat) : List UInt8 := (S.drop (begL S n)).take (endL S n - begL S n)
theorem lines_drop {S : List UInt8} {n : Nat} (h : n + 1 < countL S) : linesOf (S.take (endL S n)) = (linesOf S).take (n + 1) ∧ linesOf (S.drop (endL S n + 1)) = (linesOf S).drop (n + 1) ∧ (S.take (endL S n + 1) = S.take (endL S n) ++ [10]) := by
  obtain ⟨h1, h2, h3⟩ := ends_inner h
  have hg : S[endL S n] = 10 := by rw [List.getElem?_eq_getElem h2] at h1; exact Option.some.inj h1
  have hs : S = S.take (endL S n) ++ 10 :: S.drop (endL S n + 1) := by
    conv => lhs; rw [← List.take_append_drop (endL S n) S, List.drop_eq_getElem_cons h2, hg]
  have hl := linesOf_app (S.take (endL S n)) (S.drop (endL S n + 1))
  rw [← hs] at hl
  have hlen := linesOf_len (S.take (endL S n))
  rw [← endsTo_count, h3] at hlen
  refine ⟨?_, ?_, ?_⟩
  · rw [hl, List.take_left' hlen]
  · rw [hl, List.drop_left' hlen]
  · rw [List.take_succ_eq_append_getElem h2, hg]
theorem lines_from {S : List UInt8} {n : Nat} (h : n < countL S) : linesOf (S.drop (begL S n)) = (linesOf S).drop n := by
  cases n with
  | zero => rw [beg_zero]; rfl
  | succ n => rw [beg_succ]; exact (lines_drop h).2.1
theorem lineL_get {S : List UInt8} {n : Nat} (h : n < countL S) : (linesOf S)[n]? = some (lineL S n) := by
  have h1 := lines_from h
  have h2 : (linesOf (S.drop (begL S n))).headD [] = lineL S n := by
    refine linesOf_head _ _ (fun x hx => ?_) ?_
    · rw [List.getElem?_drop]
      exact line_clear h (by omega) (by omega)
    · have hb := beg_end h
      rw [List.getElem?_drop, List.length_drop, show begL S n + (endL S n - begL S n) = endL S n by omega]
      rcases end_is h with h | h
      · left; omega
      · exact .inr h
  rw [h1] at h2
  have hl : n < (linesOf S).length := by rw [linesOf_len, ← countL_count]; exact h
  rw [List.drop_eq_getElem_cons hl, List.headD_cons] at h2
  rw [List.getElem?_eq_getElem hl, h2]
theorem linesOf_count (S : List UInt8) : (linesOf S).length = countL S := by rw [linesOf_len, countL_count]
/-- all lines -/
theorem lines_all (S : List UInt8) : (List.range (countL S)).map (lineL S) = linesOf S := by
  apply List.ext_getElem?
  intro i
  rcases Nat.lt_or_ge i (countL S) with h | h
  · rw [lineL_get h, List.getElem?_map, List.getElem?_range h]; rfl
  · rw [List.getElem?_eq_none (by simpa using h), List.getElem?_eq_none (by rw [linesOf_count]; exact h)]
end Go.Proofs.YtgmeamefbfgbgaaDoor

/-
  A contract of the document's own answers, layer 2: Class.
-/
namespace Go.Proofs.YtgmeamefbfgbgaaDoor
open Go.RowKit

/-- the class of a rune -/
def classL (r : Nat) : Nat := if r = 32 ∨ r = 9 then 0 else if r = 10 then 3 else if (48 ≤ r ∧ r ≤ 57) ∨ (97 ≤ r ∧ r ≤ 122) ∨ (65 ≤ r ∧ r ≤ 90) ∨ r = 95 then 1 else if 128 ≤ r ∧ r ≠ 65533 then 1 else 2

end Go.Proofs.YtgmeamefbfgbgaaDoor

/-
  The signs of a line: layer 6. No program here.
-/
namespace Go.Proofs.YtgmeamefbfgbgaaDoor
open Go.RowKit

theorem dec_take {t : List UInt8} {k : Nat} (ht : t ≠ []) (hk : (dec t).2 ≤ k) : dec (t.take k) = dec t := by
  have hp := (dec_pos t).1
  have hne : t.take k ≠ [] := by
    have := List.length_pos_iff.2 ht
    intro h
    have := congrArg List.length h
    rw [List.length_take, List.length_nil] at this
    omega
  cases hb : broken (dec (t.take k)) with
  | false =>
    have h := dec_more hne hb (t.drop k)
    rw [List.take_append_drop] at h
    exact h.symm
  | true =>
    cases hc : broken (dec t) with
    | true =>
      unfold broken at hb hc
      simp only [decide_eq_true_eq] at hb hc
      exact Prod.ext (hb.1.trans hc.1.symm) (hb.2.trans hc.2.symm)
    | false =>
      obtain ⟨h1, h2, h3⟩ := dec_whole ht hc
      have e : t.take k = enc (dec t).1 ++ (t.take k).drop (dec t).2 := by
        rw [h3]
        conv => lhs; rw [← List.take_append_drop (dec t).2 (t.take k)]
        rw [List.take_take, Nat.min_eq_left hk]
      have h4 := dec_enc (dec t).1 h1 ((t.take k).drop (dec t).2)
      rw [← e] at h4
      rw [h4, enc_broken _ _ rfl] at hb
      cases hb
/-- the signs of a text's beginning, cut between two signs -/
theorem chars_take : ∀ (mid : List (Nat × Nat)) (t : List UInt8) (rest : List (Nat × Nat)), chars t = mid ++ rest → chars (t.take (width mid)) = mid := by
  intro mid
  induction mid with
  | nil => intro t rest _; simp [width, chars_nil]
  | cons x mid ih =>
    intro t rest h
    have ht : t ≠ [] := by intro h0; subst h0; rw [chars_nil] at h; cases h
    rw [chars_cons ht, List.cons_append, List.cons.injEq] at h
    obtain ⟨rfl, h⟩ := h
    have hw : width (dec t :: mid) = (dec t).2 + width mid := by simp [width]
    have hp := (dec_pos t).1
    have hne : t.take (width (dec t :: mid)) ≠ [] := by
      have := List.length_pos_iff.2 ht
      intro h
      have := congrArg List.length h
      rw [List.length_take, hw, List.length_nil] at this
      omega
    rw [chars_cons hne, dec_take ht (by omega), hw, List.drop_take, Nat.add_sub_cancel_left, ih _ _ h]
theorem Read.slice {S : List UInt8} {done mid : List (Nat × Nat)} {a b : Nat} (h : Read S done a) (h2 : Read S (done ++ mid) b) : chars ((S.drop a).take (b - a)) = mid := by
  have e : chars (S.drop a) = mid ++ chars (S.drop b) := by
    have := h.all.symm.trans h2.all
    rw [List.append_assoc] at this
    exact List.append_cancel_left this
  have hw : b - a = width mid := by rw [← h2.wide, ← h.wide, width_append]; omega
  rw [hw]
  exact chars_take mid _ _ e
theorem read_take {S : List UInt8} {i : Nat} (h : i ≤ (chars S).length) : Read S ((chars S).take i) (width ((chars S).take i)) := by
  obtain ⟨j, hj⟩ := which_ex (chars S) ((width ((chars S).take i) : Nat) : Int)
  have key : ∀ i, i ≤ (chars S).length → Read S ((chars S).take i) (width ((chars S).take i)) := by
    intro i
    induction i with
    | zero => intro _; simpa [width] using Read.start S
    | succ i ih =>
      intro hi
      have hr := ih (by omega)
      have hl : ((chars S).take i).length = i := by rw [List.length_take]; omega
      have hlt : width ((chars S).take i) < S.length := by
        rcases Nat.lt_or_ge (width ((chars S).take i)) S.length with h | h
        · exact h
        · have := congrArg List.length (hr.end_ h); omega
      have h1 := hr.step hlt
      have h2 := hr.take_succ hlt
      have h3 := hr.next_width hlt
      rw [hl] at h2 h3
      rw [h3, h2]
      exact h1
  exact key i h
/-- a sign's beginning lies in that sign -/
theorem which_self {S : List UInt8} {i : Nat} (hi : i ≤ (chars S).length) : Which (chars S) ((width ((chars S).take i) : Nat) : Int) i := by
  rcases Nat.lt_or_ge i (chars S).length with h | h
  · have hs := width_succ (chars S) i h
    have := (chars_bound S _ (List.getElem_mem h)).2.1
    exact which_in h (Int.le_refl _) (by rw [hs]; omega)
  · obtain rfl : i = (chars S).length := by omega
    exact which_behind S (by rw [width_all]; exact Int.le_refl _)
/-- a line end is a sign of its own -/
theorem nl_sign {S : List UInt8} {p : Nat} (h : S[p]? = some 10) : ∃ i, i < (chars S).length ∧ width ((chars S).take i) = p ∧ width ((chars S).take (i + 1)) = p + 1 := by
  have hp : p < S.length := by
    rcases Nat.lt_or_ge p S.length with hp | hp
    · exact hp
    · rw [List.getElem?_eq_none hp] at h; cases h
  obtain ⟨i, hi⟩ := which_ex (chars S) ((p : Nat) : Int)
  obtain ⟨h1, h2, h3⟩ := hi.here_bytes hp
  have hD : S.getD p 0 = 10 := by rw [List.getD_eq_getElem?_getD, h]; rfl
  have e : width ((chars S).take i) = p := by
    rcases Nat.lt_or_ge (width ((chars S).take i)) p with hl | hl
    · have := dec_inner (t := S.drop (width ((chars S).take i))) (k := p - width ((chars S).take i)) (by omega) (by omega)
      rw [getD_drop, show width ((chars S).take i) + (p - width ((chars S).take i)) = p by omega, hD] at this
      exact absurd this (by decide)
    · omega
  refine ⟨i, h1, e, ?_⟩
  have h4 := (read_take (S := S) (i := i) (by omega)).next_width (by omega)
  have hlen : ((chars S).take i).length = i := by rw [List.length_take]; omega
  rw [hlen, e] at h4
  have h5 : (dec (S.drop p)).2 = 1 := by
    have hd : (S.drop p).getD 0 0 = 10 := by rw [getD_drop, Nat.add_zero, hD]
    simp only [dec, hd]
    rfl
  rw [h4, h5]
theorem startsAt_mem {l : List (Nat × Nat)} (hl : ∀ x ∈ l, 1 ≤ x.2) : ∀ {a x : Nat}, x ∈ startsAt a l → a ≤ x ∧ x < a + width l := by
  induction l with
  | nil => intro a x h; simp [startsAt] at h
  | cons y l ih =>
    intro a x h
    have hw : width (y :: l) = y.2 + width l := by simp [width]
    have hy := hl y (by simp)
    rcases List.mem_cons.1 h with rfl | h
    · omega
    · have := ih (fun z hz => hl z (by simp [hz])) h
      omega
theorem filter_all {α : Type} {l : List α} {p : α → Bool} (h : ∀ x ∈ l, p x = true) : l.filter p = l := List.filter_eq_self.2 h
theorem filter_no {α : Type} {l : List α} {p : α → Bool} (h : ∀ x ∈ l, p x = false) : l.filter p = [] := List.filter_eq_nil_iff.2 fun x hx => by rw [h x hx]; decide
theorem chars_wide {S : List UInt8} : ∀ x ∈ chars S, 1 ≤ x.2 := fun x hx => (chars_bound S x hx).2.1

/-- the signs of a line -/
def signsL (S : List UInt8) (n : Nat) : List (Nat × Nat) := chars (lineL S n)
theorem line_signs {S : List UInt8} {n : Nat} (h : n < countL S) :
    ∃ A C, chars S = A ++ signsL S n ++ C ∧ width A = begL S n ∧ width A + width (signsL S n) = endL S n ∧ startsL S n = startsAt (begL S n) (signsL S n) := by
  obtain ⟨i0, hi0, e0⟩ : ∃ i, i ≤ (chars S).length ∧ width ((chars S).take i) = begL S n := by
    cases n with
    | zero => exact ⟨0, by omega, by rw [beg_zero]; simp [width]⟩
    | succ n =>
      obtain ⟨i, h1, _, h3⟩ := nl_sign (ends_inner (n := n) h).1
      exact ⟨i + 1, h1, by rw [h3, beg_succ]⟩
  obtain ⟨i1, hi1, e1⟩ : ∃ i, i ≤ (chars S).length ∧ width ((chars S).take i) = endL S n := by
    rcases end_is h with he | he
    · exact ⟨(chars S).length, Nat.le_refl _, by rw [width_all, he]⟩
    · obtain ⟨i, h1, h2, _⟩ := nl_sign he
      exact ⟨i, by omega, h2⟩
  have hbe := beg_end h
  have h01 : i0 ≤ i1 := by
    rcases Nat.lt_or_ge i1 i0 with hx | hx
    · have := width_take_mono (chars S) (show i1 + 1 ≤ i0 by omega)
      rw [width_succ _ _ (by omega)] at this
      have := chars_wide (S := S) _ (List.getElem_mem (show i1 < (chars S).length by omega))
      omega
    · exact hx
  have r0 := read_take hi0
  have r1 := read_take hi1
  have es : (chars S).take i1 = (chars S).take i0 ++ ((chars S).drop i0).take (i1 - i0) := by
    rw [← List.take_add]; congr 1; omega
  have hB : signsL S n = ((chars S).drop i0).take (i1 - i0) := by
    rw [es] at r1
    have := r0.slice r1
    rw [← es, e0, e1] at this
    exact this
  have eA : chars S = (chars S).take i0 ++ signsL S n ++ (chars S).drop i1 := by
    rw [hB, ← es, List.take_append_drop]
  have e2 : width ((chars S).take i0) + width (signsL S n) = endL S n := by rw [hB, ← width_append, ← es, e1]
  refine ⟨_, _, eA, e0, e2, ?_⟩
  have hx : ∀ x, inLine S (n : Int) x = (decide (begL S n ≤ x) && decide (x < endL S n)) := fun x => by
    unfold inLine; rw [boundsL_nat h]
  have hin : ∀ x ∈ (chars S).take i0, 1 ≤ x.2 := fun x hx => chars_wide x (List.mem_of_mem_take hx)
  have hin2 : ∀ x ∈ signsL S n, 1 ≤ x.2 := chars_wide
  have hin3 : ∀ x ∈ (chars S).drop i1, 1 ≤ x.2 := fun x hx => chars_wide x (List.mem_of_mem_drop hx)
  unfold startsL
  conv => lhs; rw [eA]
  rw [startsAt_append, startsAt_append, List.filter_append, List.filter_append, width_append, e2, Nat.zero_add, Nat.zero_add, e0]
  rw [filter_no (l := startsAt 0 _), filter_all (l := startsAt (begL S n) _), filter_no (l := startsAt (endL S n) _), List.nil_append, List.append_nil]
  · intro x hm
    have := startsAt_mem hin3 hm
    rw [hx]; simp; omega
  · intro x hm
    have := startsAt_mem hin2 hm
    rw [hx]; simp; omega
  · intro x hm
    have := startsAt_mem hin hm
    rw [hx]; simp; omega
theorem startsAt_nth (a : Nat) (l : List (Nat × Nat)) (k : Nat) (h : k < l.length) : (startsAt a l)[k]? = some (a + width (l.take k)) := by
  induction l generalizing a k with
  | nil => simp at h
  | cons x l ih =>
    cases k with
    | zero => simp [startsAt, width]
    | succ k =>
      simp only [startsAt, List.getElem?_cons_succ, List.take_succ_cons]
      rw [ih (a + x.2) k (by simpa using h)]
      simp [width]; omega
theorem startsL_nth {S : List UInt8} {n : Nat} (h : n < countL S) {k : Nat} (hk : k < (signsL S n).length) : (startsL S (n : Int)).getD k 0 = begL S n + width ((signsL S n).take k) := by
  obtain ⟨A, C, h1, h2, h3, h4⟩ := line_signs h
  rw [h4, List.getD_eq_getElem?_getD, startsAt_nth _ _ _ hk]; rfl
theorem startsL_count {S : List UInt8} {n : Nat} (h : n < countL S) : (startsL S (n : Int)).length = (signsL S n).length := by
  obtain ⟨A, C, h1, h2, h3, h4⟩ := line_signs h
  rw [h4, startsAt_len]
/-- a sign of a line, as a sign of the text -/
theorem sign_of {S : List UInt8} {n : Nat} (h : n < countL S) {k : Nat} (hk : k < (signsL S n).length) {i : Nat} (hi : Which (chars S) ((begL S n + width ((signsL S n).take k) : Nat) : Int) i) :
    (chars S).getD i (0, 0) = (signsL S n)[k] ∧ width ((chars S).take i) = begL S n + width ((signsL S n).take k) ∧ width ((chars S).take (i + 1)) = begL S n + width ((signsL S n).take (k + 1)) := by
  obtain ⟨A, C, h1, h2, h3, h4⟩ := line_signs h
  generalize signsL S n = B at *
  have hlen : A.length + k < (chars S).length := by rw [h1]; simp; omega
  have e1 : (chars S).take (A.length + k) = A ++ B.take k := by
    rw [h1, List.append_assoc, List.take_length_add_append, List.take_append_of_le_length (by omega)]
  have e2 : (chars S).take (A.length + k + 1) = A ++ B.take (k + 1) := by
    rw [h1, List.append_assoc, Nat.add_assoc, List.take_length_add_append, List.take_append_of_le_length (by omega)]
  have w1 : width ((chars S).take (A.length + k)) = begL S n + width (B.take k) := by rw [e1, width_append, h2]
  have w2 : width ((chars S).take (A.length + k + 1)) = begL S n + width (B.take (k + 1)) := by rw [e2, width_append, h2]
  have hw : 1 ≤ B[k].2 := chars_wide (S := S) _ (by rw [h1]; simp)
  have hs := width_succ B k hk
  obtain rfl : i = A.length + k := hi.unique (which_in hlen (by rw [w1]; exact Int.le_refl _) (by rw [w2]; omega))
  refine ⟨?_, w1, w2⟩
  rw [h1, List.getD_eq_getElem?_getD, List.append_assoc, List.getElem?_append_right (by omega), Nat.add_sub_cancel_left, List.getElem?_append_left hk, List.getElem?_eq_getElem hk]; rfl

/-- the place of a column -/
theorem placeL_eq {S : List UInt8} {n col : Int} : placeL S n col = begL S (broughtL S n) + width ((signsL S (broughtL S n)).take (min col.toNat ((signsL S (broughtL S n)).length - 1))) := by
  have hb : broughtL S n < countL S := by have := countL_pos S; unfold broughtL; omega
  unfold placeL lastL
  generalize broughtL S n = k at *
  have hc := startsL_count hb
  by_cases h1 : col.toNat < (startsL S (k : Int)).length
  · rw [if_pos h1, startsL_nth hb (by omega), Nat.min_eq_left (by omega)]
  · rw [if_neg h1]
    by_cases h2 : startsL S (k : Int) = []
    · rw [if_pos h2, boundsL_nat hb]
      rw [h2] at hc
      have : signsL S k = [] := List.eq_nil_of_length_eq_zero (by simpa using hc.symm)
      rw [this]; simp [width]
    · have := List.length_pos_iff.2 h2
      rw [if_neg h2, startsL_nth hb (by omega), Nat.min_eq_right (by omega), hc]
theorem lastL_eq {S : List UInt8} {n : Nat} (hb : n < countL S) : lastL S (n : Int) = begL S n + width ((signsL S n).take ((signsL S n).length - 1)) := by
  have hc := startsL_count hb
  unfold lastL
  by_cases h2 : startsL S (n : Int) = []
  · rw [if_pos h2, boundsL_nat hb]
    rw [h2] at hc
    have : signsL S n = [] := List.eq_nil_of_length_eq_zero (by simpa using hc.symm)
    rw [this]; simp [width]
  · have := List.length_pos_iff.2 h2
    rw [if_neg h2, startsL_nth hb (by omega), hc]
/-- the first sign of a line that is not blank, or the last -/
def firstJ (B : List (Nat × Nat)) : Nat := min (B.findIdx fun x => classL x.1 != 0) (B.length - 1)
def firstL (S : List UInt8) (n : Int) : Nat := begL S (broughtL S n) + width ((signsL S (broughtL S n)).take (firstJ (signsL S (broughtL S n))))
theorem firstJ_hit {B : List (Nat × Nat)} {j : Nat} (hj : j < B.length) (h : classL B[j].1 ≠ 0) (hb : ∀ i (hi : i < j), classL (B[i]'(by omega)).1 = 0) : firstJ B = j := by
  have e : B.findIdx (fun x => classL x.1 != 0) = j := by
    rw [List.findIdx_eq hj]
    exact ⟨by simpa using h, fun i hi => by simpa using hb i hi⟩
  unfold firstJ; rw [e]; omega
theorem firstJ_none {B : List (Nat × Nat)} (hb : ∀ i (hi : i < B.length), classL B[i].1 = 0) : firstJ B = B.length - 1 := by
  have e : B.findIdx (fun x => classL x.1 != 0) = B.length := by
    rw [List.findIdx_eq_length]
    intro x hx
    obtain ⟨i, hi, rfl⟩ := List.getElem_of_mem hx
    simpa using hb i hi
  unfold firstJ; rw [e]; omega

/-- the column of the beginning of a sign -/
theorem col_eq {S : List UInt8} {i : Nat} (hi : i ≤ (chars S).length) :
    colAt S (width ((chars S).take i)) = (chars ((S.drop (begL S (ofL S ((width ((chars S).take i) : Nat) : Int)))).take (width ((chars S).take i) - begL S (ofL S ((width ((chars S).take i) : Nat) : Int))))).length := by
  have hw := (read_take hi).le
  have ho : ofL S ((width ((chars S).take i) : Nat) : Int) = (endsTo S (width ((chars S).take i))).length := by
    unfold ofL; rw [Int.toNat_natCast, Nat.min_eq_right hw]
  obtain ⟨h1, h2, h3⟩ := place_line hw
  unfold colAt
  rw [ho]
  generalize (endsTo S (width ((chars S).take i))).length = n at *
  obtain ⟨A, C, g1, g2, g3, g4⟩ := line_signs h1
  generalize ha : width ((chars S).take i) = a at *
  have hA : A.length ≤ i := by
    rcases Nat.lt_or_ge i A.length with hx | hx
    · have := width_take_mono (chars S) (show i + 1 ≤ A.length by omega)
      have e : (chars S).take A.length = A := by rw [g1, List.append_assoc, List.take_left' rfl]
      have hl : A.length ≤ (chars S).length := by rw [g1]; simp
      rw [e, width_succ _ _ (by omega)] at this
      have := chars_wide (S := S) _ (List.getElem_mem (show i < (chars S).length by omega))
      omega
    · exact hx
  have hAB : i ≤ A.length + (signsL S n).length := by
    rcases Nat.lt_or_ge (A.length + (signsL S n).length) i with hx | hx
    · have := width_take_mono (chars S) (show A.length + (signsL S n).length + 1 ≤ i by omega)
      have e : (chars S).take (A.length + (signsL S n).length) = A ++ signsL S n := by rw [g1, ← List.length_append, List.take_left' rfl]
      rw [width_succ _ _ (by omega), e, width_append] at this
      have := chars_wide (S := S) _ (List.getElem_mem (show A.length + (signsL S n).length < (chars S).length by omega))
      omega
    · exact hx
  obtain ⟨k, rfl⟩ : ∃ k, i = A.length + k := ⟨i - A.length, by omega⟩
  have et : (chars S).take (A.length + k) = A ++ (signsL S n).take k := by
    rw [g1, List.append_assoc, List.take_length_add_append, List.take_append_of_le_length (by omega)]
  have eA : (chars S).take A.length = A := by rw [g1, List.append_assoc, List.take_left' rfl]
  have r0 := read_take (S := S) (i := A.length) (by omega)
  have r1 := read_take hi
  rw [eA, g2] at r0
  rw [et, ← et, ha, et] at r1
  rw [r0.slice r1, g4]
  have hwa : a = begL S n + width ((signsL S n).take k) := by rw [← ha, et, width_append, g2]
  have hk : k ≤ (signsL S n).length := by omega
  have hB : ∀ x ∈ signsL S n, 1 ≤ x.2 := chars_wide
  generalize signsL S n = B at *
  conv => lhs; rw [← List.take_append_drop k B, startsAt_append, List.filter_append, filter_all (l := startsAt _ (B.take k)) (fun x hx => by
    have := startsAt_mem (fun y hy => hB y (List.mem_of_mem_take hy)) hx
    simp; omega), filter_no (l := startsAt _ (B.drop k)) (fun x hx => by
    have := startsAt_mem (fun y hy => hB y (List.mem_of_mem_drop hy)) hx
    simp; omega)]
  rw [List.append_nil, startsAt_len]
/-- a sign that is no line end is found again by its line and its column -/
theorem back_eq {S : List UInt8} {i : Nat} (hi : i ≤ (chars S).length) (hl : width ((chars S).take i) < S.length) (h10 : S[width ((chars S).take i)]? ≠ some 10) :
    (endsTo S (width ((chars S).take i))).length < countL S ∧ begL S (endsTo S (width ((chars S).take i))).length ≤ width ((chars S).take i) ∧ width ((chars S).take i) < endL S (endsTo S (width ((chars S).take i))).length ∧
      placeL S (ofL S ((width ((chars S).take i) : Nat) : Int)) (colAt S (width ((chars S).take i))) = width ((chars S).take i) := by
  have hw := (read_take hi).le
  have ho : ofL S ((width ((chars S).take i) : Nat) : Int) = (endsTo S (width ((chars S).take i))).length := by
    unfold ofL; rw [Int.toNat_natCast, Nat.min_eq_right hw]
  have hc := col_eq hi
  rw [ho] at hc ⊢
  obtain ⟨h1, h2, h3⟩ := place_line hw
  generalize (endsTo S (width ((chars S).take i))).length = n at *
  have h4 : width ((chars S).take i) < endL S n := by
    rcases Nat.lt_or_ge (width ((chars S).take i)) (endL S n) with h | h
    · exact h
    · have e : width ((chars S).take i) = endL S n := by omega
      rw [e] at hl h10
      rcases end_is h1 with h | h
      · omega
      · exact absurd h h10
  refine ⟨h1, h2, h4, ?_⟩
  rw [placeL_eq, hc]
  have hbr : broughtL S (n : Int) = n := by unfold broughtL; omega
  rw [hbr]
  obtain ⟨A, C, g1, g2, g3, g4⟩ := line_signs h1
  generalize ha : width ((chars S).take i) = a at *
  have eA : (chars S).take A.length = A := by rw [g1, List.append_assoc, List.take_left' rfl]
  have hlA : A.length + (signsL S n).length ≤ (chars S).length := by rw [g1]; simp
  have hA : A.length ≤ i := by
    rcases Nat.lt_or_ge i A.length with hx | hx
    · have := width_take_mono (chars S) (show i + 1 ≤ A.length by omega)
      rw [eA, width_succ _ _ (by omega)] at this
      have := chars_wide (S := S) _ (List.getElem_mem (show i < (chars S).length by omega))
      omega
    · exact hx
  have hAB : i < A.length + (signsL S n).length := by
    rcases Nat.lt_or_ge i (A.length + (signsL S n).length) with hx | hx
    · exact hx
    · have := width_take_mono (chars S) hx
      have e : (chars S).take (A.length + (signsL S n).length) = A ++ signsL S n := by rw [g1, ← List.length_append, List.take_left' rfl]
      rw [e, width_append] at this
      omega
  obtain ⟨k, rfl⟩ : ∃ k, i = A.length + k := ⟨i - A.length, by omega⟩
  have et : (chars S).take (A.length + k) = A ++ (signsL S n).take k := by
    rw [g1, List.append_assoc, List.take_length_add_append, List.take_append_of_le_length (by omega)]
  have r0 := read_take (S := S) (i := A.length) (by omega)
  have r1 := read_take hi
  rw [eA, g2] at r0
  rw [ha, et] at r1
  rw [r0.slice r1]
  have hwa : a = begL S n + width ((signsL S n).take k) := by rw [← ha, et, width_append, g2]
  rw [List.length_take, Int.toNat_natCast, Nat.min_eq_left (show k ≤ (signsL S n).length by omega), Nat.min_eq_left (by omega), ← hwa]
end Go.Proofs.YtgmeamefbfgbgaaDoor

/-
  Contracts of the document's own answers, layer 6: First.
-/
namespace Go.Proofs.YtgmeamefbfgbgaaDoor
open Go.RowKit

theorem firstL_of {S : List UInt8} {n : Int} {k j : Nat} (hk : broughtL S n = k) (hj : firstJ (signsL S k) = j) : firstL S n = begL S k + width ((signsL S k).take j) := by
  unfold firstL; rw [hk, hj]
theorem brought_lt (S : List UInt8) (n : Int) : broughtL S n < countL S := by have := countL_pos S; unfold broughtL; omega

end Go.Proofs.YtgmeamefbfgbgaaDoor

/-
  A text without some whole lines: layer 6. No program here.
-/
namespace Go.Proofs.YtgmeamefbfgbgaaDoor
open Go.RowKit

/-- what lines are left -/
def leftL (S : List UInt8) (a b : Nat) : List (List UInt8) := if (linesOf S).take a ++ (linesOf S).drop (b + 1) = [] then [[]] else (linesOf S).take a ++ (linesOf S).drop (b + 1)
theorem beg_mono {S : List UInt8} {a b : Nat} (h : a ≤ b) (hb : b < countL S) : begL S a ≤ begL S b := by
  rcases Nat.lt_or_ge (begL S b) (begL S a) with hx | hx
  · have h1 := endsTo_mono S (show begL S b ≤ begL S a by omega)
    rw [beg_ends hb, beg_ends (by omega)] at h1
    obtain rfl : a = b := by omega
    exact Nat.le_refl _
  · exact hx
theorem cut_lines {S : List UInt8} {a b : Nat} (h1 : a ≤ b) (h2 : b < countL S) :
    ∃ F T, wholeL S a b = ((F, T), 0) ∧ F ≤ T ∧ T ≤ S.length ∧ linesOf (S.take F ++ S.drop T) = leftL S a b := by
  have hlen := linesOf_count S
  have hw := wholeL_good (S := S) (a := a) (b := b) ⟨by omega, by omega, by omega⟩
  rw [boundsL_nat (by omega)] at hw
  by_cases h3 : b + 1 < countL S
  · rw [if_pos (by omega), show ((b : Int) + 1) = ((b + 1 : Nat) : Int) by omega, boundsL_nat h3] at hw
    refine ⟨_, _, hw, beg_mono (by omega) h3, beg_le h3, ?_⟩
    have hd := lines_from h3
    have hne : (linesOf S).drop (b + 1) ≠ [] := by rw [← hd]; exact linesOf_ne _
    unfold leftL
    rw [if_neg (by simp [hne])]
    cases a with
    | zero => rw [beg_zero, List.take_zero, List.nil_append, List.take_zero, List.nil_append]; exact hd
    | succ a =>
      obtain ⟨g1, g2, g3⟩ := lines_drop (n := a) (S := S) (by omega)
      rw [beg_succ, g3, List.append_assoc, List.singleton_append, linesOf_app, g1, ← hd]
  · rw [if_neg (by omega)] at hw
    have hd : (linesOf S).drop (b + 1) = [] := List.drop_eq_nil_of_le (by omega)
    unfold leftL
    rw [hd, List.append_nil]
    cases a with
    | zero =>
      rw [if_neg (by omega)] at hw
      refine ⟨_, _, hw, Nat.zero_le _, Nat.le_refl _, ?_⟩
      simp [linesOf]
    | succ a =>
      rw [if_pos (by omega)] at hw
      obtain ⟨g1, g2, g3⟩ := lines_drop (n := a) (S := S) (by omega)
      have hbl := beg_le (S := S) (n := a + 1) (by omega)
      refine ⟨_, _, hw, by show begL S (a + 1) - 1 ≤ S.length; omega, Nat.le_refl _, ?_⟩
      have hne : (linesOf S).take (a + 1) ≠ [] := by rw [← g1]; exact linesOf_ne _
      rw [if_neg hne, List.drop_length, List.append_nil, beg_succ, ← g1]
      rfl
end Go.Proofs.YtgmeamefbfgbgaaDoor

/-
  Merged: LabMath, LabBase, LabText, LabAlive, RefMarks, RefSets, RefBelow, RefLists.
-/
import Derived.Test.YtgmeamefbfgbgaaDoorWords
import Derived.Test.YtgmeamefbfgbgaaDoorRows
import Derived.Deep.QuietTactic
import Derived.BigQuiet
/-
  Plain facts on labels as numbers: which categories a label has, the label of categories. No program here.
-/
namespace Go.Proofs.YtgmeamefbfgbgaaDoor

theorem subB_bit (k l : Nat) : (((2 ^ k &&& l : Nat) : Int) == ((2 ^ k : Nat) : Int)) = l.testBit k := by
  have h : (2 ^ k &&& l) = l / 2 ^ k % 2 * 2 ^ k := by rw [Nat.and_comm]; exact Go.nat_bit k l
  have hp : 0 < 2 ^ k := Nat.two_pow_pos k
  rw [Nat.testBit_eq_decide_div_mod_eq, h, Bool.eq_iff_iff, beq_iff_eq, decide_eq_true_iff]
  rcases Nat.mod_two_eq_zero_or_one (l / 2 ^ k) with e | e
  · rw [e]
    constructor
    · intro h; omega
    · intro h; omega
  · rw [e]; simp

/-- the categories below k -/
def catsTo (l k : Nat) : List Nat := (List.range k).filter (fun i => l.testBit i)

theorem catsTo_succ (l k : Nat) : catsTo l (k + 1) = catsTo l k ++ (if l.testBit k then [k] else []) := by
  unfold catsTo
  rw [List.range_succ, List.filter_append]
  by_cases h : l.testBit k <;> simp [h]

theorem catsTo_len (l k : Nat) : (catsTo l k).length ≤ k := by
  unfold catsTo
  have := List.length_filter_le (fun i => l.testBit i) (List.range k)
  simpa using this

theorem catsTo_lt (l k : Nat) : ∀ c ∈ catsTo l k, c < k := by
  intro c hc
  unfold catsTo at hc
  simp at hc
  exact hc.1

def intv (n : Nat) : Value := .int .i64 (n : Int)

/-- one category more; none stays none -/
def ofStep (acc : Option Nat) (c : Int) : Option Nat :=
  match acc with
  | none => none
  | some l => if 0 ≤ c ∧ c < 64 then some (l ||| 2 ^ c.toNat) else none
/-- the label of numbers; none if one of them is no category -/
def ofTo (zs : List Int) : Option Nat := zs.foldl ofStep (some 0)

theorem ofTo_snoc (zs : List Int) (c : Int) : ofTo (zs ++ [c]) = ofStep (ofTo zs) c := by
  unfold ofTo; rw [List.foldl_append]; rfl
theorem ofSteps_none (ys : List Int) : ys.foldl ofStep none = none := by
  induction ys with
  | nil => rfl
  | cons y ys ih => exact ih
theorem ofTo_none (zs ys : List Int) (h : ofTo zs = none) : ofTo (zs ++ ys) = none := by
  unfold ofTo at *
  rw [List.foldl_append, h]
  exact ofSteps_none ys

theorem or_lt {a b : Nat} (ha : a < 18446744073709551616) (hb : b < 18446744073709551616) : a ||| b < 18446744073709551616 := Nat.or_lt_two_pow (n := 64) ha hb
theorem and_lt {a : Nat} (b : Nat) (ha : a < 18446744073709551616) : a &&& b < 18446744073709551616 := Nat.lt_of_le_of_lt Nat.and_le_left ha
theorem pow_lt {k : Nat} (h : k < 64) : 2 ^ k < 18446744073709551616 := Nat.pow_lt_pow_of_lt (by decide) h

theorem ofTo_lt (zs : List Int) (l : Nat) (h : ofTo zs = some l) : l < 18446744073709551616 := by
  have key : ∀ (ys : List Int) (l0 l1 : Nat), l0 < 18446744073709551616 → ys.foldl ofStep (some l0) = some l1 → l1 < 18446744073709551616 := by
    intro ys
    induction ys with
    | nil => intro l0 l1 h0 h1; simp at h1; omega
    | cons y ys ih =>
      intro l0 l1 h0 h1
      rw [List.foldl_cons] at h1
      by_cases hy : 0 ≤ y ∧ y < 64
      · rw [show ofStep (some l0) y = some (l0 ||| 2 ^ y.toNat) by simp [ofStep, hy]] at h1
        exact ih _ l1 (or_lt h0 (pow_lt (by omega))) h1
      · rw [show ofStep (some l0) y = none by simp only [ofStep]; rw [if_neg hy], ofSteps_none] at h1
        cases h1
  exact key zs 0 l (by decide) h

end Go.Proofs.YtgmeamefbfgbgaaDoor

/-
  Contracts for package label: Join, Meet, Below, only, Place, Of, Cats.
-/
namespace Go.Proofs.YtgmeamefbfgbgaaDoor
open Go.RowKit

set_option maxHeartbeats 400000 in
theorem meet_any (a b : Nat) (ha : a < 18446744073709551616) (hb : b < 18446744073709551616) (w : World) :
    Calls Tryd.prog 75 #[.int .u64 a, .int .u64 b] w fun e w' => e = .returned (.int .u64 ((a &&& b : Nat) : Int)) ∧ w = w' := by
  have h := u64_and_nat a b ha hb
  go_enter Tryd.func75, Tryd.ntmps75
  go_wp2
  go_ret
  exact ⟨rfl, rfl⟩

def subB (a b : Nat) : Bool := (((a &&& b : Nat) : Int) == (a : Int))

set_option maxHeartbeats 400000 in
theorem below_any (a b : Nat) (ha : a < 18446744073709551616) (hb : b < 18446744073709551616) (w : World) :
    Calls Tryd.prog 48 #[.int .u64 a, .int .u64 b] w fun e w' => e = .returned (.bool (subB a b)) ∧ w = w' := by
  go_enter Tryd.func48, Tryd.ntmps48
  go_wp2_with (go_at_call 75; refine (meet_any a b ha hb _).mono ?_; rintro e w' ⟨rfl, rfl⟩)
  go_ret
  exact ⟨rfl, rfl⟩

theorem wrap_pow {k : Nat} (hk : k < 64) : IntKind.u64.wrap (2 ^ k) = ((2 ^ k : Nat) : Int) := by
  have h := pow_lt hk
  have e : ((2 : Int) ^ k) = ((2 ^ k : Nat) : Int) := by simp
  rw [IntKind.wrap_u64, e]
  generalize 2 ^ k = m at h
  omega

theorem ret_int {k : IntKind} {a b : Int} (h : a = b) : Ending.returned (.int k a) = .returned (.int k b) := by rw [h]

def joinAllN (zs : List Nat) : Nat := zs.foldl (fun a b => a ||| b) 0
theorem joinAllN_lt (zs : List Nat) (h : ∀ z ∈ zs, z < 18446744073709551616) : joinAllN zs < 18446744073709551616 := by
  have key : ∀ (ys : List Nat) (a : Nat), a < 18446744073709551616 → (∀ z ∈ ys, z < 18446744073709551616) → ys.foldl (fun a b => a ||| b) a < 18446744073709551616 := by
    intro ys
    induction ys with
    | nil => intro a ha _; exact ha
    | cons y ys ih => intro a ha hy; exact ih _ (or_lt ha (hy y (by simp))) (fun z hz => hy z (by simp [hz]))
  exact key zs 0 (by decide) h
theorem joinAllN_snoc (zs : List Nat) (z : Nat) : joinAllN (zs ++ [z]) = joinAllN zs ||| z := by unfold joinAllN; rw [List.foldl_append]; rfl
theorem take_snoc {α : Type} (zs : List α) (k : Nat) (h : k < zs.length) : zs.take (k + 1) = zs.take k ++ [zs[k]] := by
  rw [List.take_succ_eq_append_getElem h]

def placeN (zs : List Nat) (l : Nat) : Int := match zs.findIdx? (fun z => z == l) with | some i => (i : Int) | none => -1

theorem placeN_at (zs : List Nat) (l k : Nat) (hk : k < zs.length) (hne : ∀ j, (hj : j < k) → zs[j]'(by omega) ≠ l) (he : zs[k] = l) : placeN zs l = k := by
  have h : zs.findIdx? (fun z => z == l) = some k := by
    rw [List.findIdx?_eq_some_iff_getElem]
    exact ⟨hk, by simp [he], fun j hj => by simp [hne j hj]⟩
  simp [placeN, h]
theorem placeN_none (zs : List Nat) (l : Nat) (hne : ∀ j, (hj : j < zs.length) → zs[j] ≠ l) : placeN zs l = -1 := by
  have h : zs.findIdx? (fun z => z == l) = none := by
    rw [List.findIdx?_eq_none_iff]
    intro x hx
    obtain ⟨j, hj, rfl⟩ := List.getElem_of_mem hx
    simp [hne j hj]
  simp [placeN, h]

def errno (n : Int) : Value := .int .i64 n

theorem ofStep_yes {l : Nat} {c : Int} (h0 : 0 ≤ c) (h1 : c < 64) : ofStep (some l) c = some (l ||| 2 ^ c.toNat) := by simp [ofStep, h0, h1]
theorem ofStep_no {l : Nat} {c : Int} (h : c < 0 ∨ 64 ≤ c) : ofStep (some l) c = none := by
  simp only [ofStep]; rw [if_neg (by omega)]

/-- what Of answers -/
def ofEnd (o : Option Nat) : Value := match o with | some l => .tuple #[.int .u64 (l : Int), .int .i64 0] | none => .tuple #[.int .u64 0, .int .i64 2]

theorem ofTo_stop (zs : List Int) (k : Nat) (hk : k < zs.length) {l : Nat} (h : ofTo (zs.take k) = some l) (hc : zs[k] < 0 ∨ 64 ≤ zs[k]) : ofTo zs = none := by
  have e : zs = zs.take k ++ [zs[k]] ++ zs.drop (k + 1) := by
    rw [← take_snoc zs k hk, List.take_append_drop]
  have h1 : ofTo (zs.take k ++ [zs[k]]) = none := by rw [ofTo_snoc, h, ofStep_no hc]
  rw [e]
  exact ofTo_none _ _ h1


theorem elt_intL : Elt Tryd.prog 64 3 (.int .i64 0) 1 8 := ⟨Tryd.underlying64, by kernel_rfl, rfl, by decide⟩

end Go.Proofs.YtgmeamefbfgbgaaDoor

/-
  Contracts for package label: appendNumber, Print.
-/
namespace Go.Proofs.YtgmeamefbfgbgaaDoor
open Go.RowKit

theorem elt_byte : Elt Tryd.prog 85 5 (.int .u8 0) 1 1 := ⟨Tryd.underlying85, by kernel_rfl, rfl, by decide⟩

def digs (c : Nat) : List UInt8 := if 10 ≤ c then [UInt8.ofNat (48 + c / 10), UInt8.ofNat (48 + c % 10)] else [UInt8.ofNat (48 + c % 10)]

theorem byt_of (n : Nat) {i : Int} (hi : i = n) (h : n < 256) : .int .u8 i = byt (UInt8.ofNat n) := by
  unfold byt
  rw [UInt8.toNat_ofNat', Nat.mod_eq_of_lt h, hi]

theorem own_snoc {w : World} {base e n : Nat} {v : Value} {xs : List UInt8} {u : Value} {b : UInt8} (h : w.ownsRow base e 1 v n (xs.map byt ++ [u])) (hn : n = xs.length + 1) (hu : u = byt b) : w.ownsRow base e 1 v (xs ++ [b]).length ((xs ++ [b]).map byt) := by
  subst hu hn
  simpa using h

/-- categories one behind the other, dots between them -/
def dotStep (t : List UInt8) (c : Nat) : List UInt8 := (if 0 < t.length then t ++ [46] else t) ++ digs c
def dots (cs : List Nat) : List UInt8 := cs.foldl dotStep []
theorem dots_snoc (cs : List Nat) (c : Nat) : dots (cs ++ [c]) = dotStep (dots cs) c := by unfold dots; rw [List.foldl_append]; rfl
theorem digs_len (c : Nat) : 1 ≤ (digs c).length ∧ (digs c).length ≤ 2 := by unfold digs; split <;> simp
theorem dots_len (cs : List Nat) (k : Nat) : (dots (cs.take k)).length ≤ 3 * k := by
  induction k with
  | zero => simp [dots]
  | succ k ih =>
    by_cases hk : k < cs.length
    · rw [take_snoc cs k hk, dots_snoc]
      unfold dotStep
      have := digs_len cs[k]
      split <;> simp <;> omega
    · rw [List.take_of_length_le (by omega)] at ih ⊢
      omega
def printN (l : Nat) : List UInt8 := if l = 0 then [45] else dots (catsTo l 64)

theorem zero_beq {l : Nat} (h : l = 0) : ((l : Int) == 0) = true := by simp [h]
theorem zero_bne {l : Nat} (h : ¬ l = 0) : ((l : Int) == 0) = false := by simp; omega

end Go.Proofs.YtgmeamefbfgbgaaDoor

/-
  The contract of the law package's alive: true, whatever the world.
-/
namespace Go.Proofs.YtgmeamefbfgbgaaDoor
open Go.RowKit

theorem alive_label : ∃ l : Nat, ofTo [5, 0, 63, 5] = some l ∧ l < 18446744073709551616 ∧ printN l = [48, 46, 53, 46, 54, 51] :=
  ⟨2 ^ 63 + 33, by decide +kernel, by decide +kernel, by decide +kernel⟩

theorem row_new4 (w : World) (t : TypeId) (a b c d : Int) : Row (w.alloc (.cells #[.int .i64 a, .int .i64 b, .int .i64 c, .int .i64 d] t)) (w.heap.size + 1) (some ⟨w.heap.size, 0, none⟩) ([a, b, c, d].map intz) := by
  right
  refine ⟨_, rfl, by simp, ?_⟩
  intro j u hj
  match j, hj with
  | 0, hj => simp [intz] at hj; subst hj; simp [Addr.add]
  | 1, hj => simp [intz] at hj; subst hj; simp [Addr.add]
  | 2, hj => simp [intz] at hj; subst hj; simp [Addr.add]
  | 3, hj => simp [intz] at hj; subst hj; simp [Addr.add]
  | (j + 4), hj => simp at hj

end Go.Proofs.YtgmeamefbfgbgaaDoor

/-
  Contracts of the document's own answers, layer 1: Marks, Label, Join, Meet, Below.
-/
namespace Go.Proofs.YtgmeamefbfgbgaaDoor
open Go.RowKit

/-- 64 marks -/
def marks (f : Nat → Bool) : Array Value := Array.ofFn (n := 64) (fun i => Value.bool (f i.val))
theorem marks_size (f : Nat → Bool) : (marks f).size = 64 := by simp [marks]
theorem marks_get (f : Nat → Bool) {i : Nat} (h : i < 64) : (marks f)[i]? = some (.bool (f i)) := by simp [marks, h]
theorem marks_set (f : Nat → Bool) (k : Nat) (b : Bool) : (marks f).setIfInBounds k (.bool b) = marks (fun i => if i = k then b else f i) := by
  apply Array.ext
  · simp [marks]
  · intro i h1 h2
    rw [Array.getElem_setIfInBounds]
    · by_cases h : k = i
      · subst h; simp [marks]
      · have h' : ¬ i = k := fun e => h e.symm
        simp [marks, h, h']
    · simpa using h1
theorem marks_congr {f g : Nat → Bool} (h : ∀ i, i < 64 → f i = g i) : marks f = marks g := by
  unfold marks; congr 1; funext i; rw [h i.val i.isLt]
theorem marks_one (f : Nat → Bool) : (marks f).all (·.oneCell') = true := by
  rw [Array.all_eq_true]; intro i hi; simp [marks, Value.oneCell']
theorem size_set : (Tryd.prog.info? 118).map (·.size) = some 64 := by kernel_rfl

theorem zero_marks : (#[.bool false, .bool false, .bool false, .bool false, .bool false, .bool false, .bool false, .bool false, .bool false, .bool false, .bool false, .bool false, .bool false, .bool false, .bool false, .bool false,
  .bool false, .bool false, .bool false, .bool false, .bool false, .bool false, .bool false, .bool false, .bool false, .bool false, .bool false, .bool false, .bool false, .bool false, .bool false, .bool false,
  .bool false, .bool false, .bool false, .bool false, .bool false, .bool false, .bool false, .bool false, .bool false, .bool false, .bool false, .bool false, .bool false, .bool false, .bool false, .bool false,
  .bool false, .bool false, .bool false, .bool false, .bool false, .bool false, .bool false, .bool false, .bool false, .bool false, .bool false, .bool false, .bool false, .bool false, .bool false, .bool false] : Array Value) = marks (fun _ => false) := by kernel_rfl

attribute [irreducible] marks
theorem zero_set : (Tryd.prog.info? 118).map (fun i => i.zero) = some (some (.agg (marks fun _ => false))) := by rw [← zero_marks]; kernel_rfl
theorem size_marks (f : Nat → Bool) : (Tryd.prog.info? 118).map (·.size) = some (marks f).size := by rw [marks_size]; exact size_set

theorem mark_eq (l k : Nat) : (((l / 2 ^ k : Nat) : Int) % 2 == 1) = l.testBit k := by
  rw [Nat.testBit_eq_decide_div_mod_eq, Bool.eq_iff_iff, beq_iff_eq, decide_eq_true_iff]
  omega
theorem half (l k : Nat) : ((l / 2 ^ k : Nat) : Int) / 2 = ((l / 2 ^ (k + 1) : Nat) : Int) := by
  rw [Nat.pow_succ, ← Nat.div_div_eq_div_mul]; omega

set_option maxHeartbeats 400000 in
theorem marks_any (l : Nat) (hl : l < 18446744073709551616) (w : World) :
    Calls Tryd.prog 72 #[.int .u64 l] w fun e w' => e = .returned (.agg (marks l.testBit)) ∧ Below w.heap.size w w' := by
  go_enter Tryd.func72, Tryd.ntmps72
  go_wp2
  go_loopw [4, 5] (fun n i wr => ∃ k : Nat, k ≤ 64 ∧ i = .int .i64 k ∧ n = .int .u64 ((l / 2 ^ k : Nat) : Int) ∧ Blk wr (w.heap.size + 1) 118 (marks fun i => decide (i < k) && l.testBit i) ∧ Blk wr w.heap.size 118 (marks fun _ => false) ∧ Below w.heap.size w wr) (fun _ i _ => 64 - (intOf i).toNat)
  case atStart =>
    refine ⟨0, by omega, rfl, by simp, ?_, ?_, ((Below.refl _ _).alloc (Nat.le_refl _) _).alloc (by simp) _⟩
    · rw [zero_marks]
      have h := Blk.new (w.alloc (.cells (marks fun _ => false) 118)) 118 (marks fun _ => false)
      simpa using h
    · rw [zero_marks]
      exact (Blk.new w _ _).alloc _
  case round =>
    obtain ⟨k, hk, rfl, rfl, hbs, hbr, hbl⟩ := hrel
    by_cases hlt : k < 64
    · have hc : wr.cell? ⟨w.heap.size + 1, k, none⟩ = some (.bool (decide (k < k) && l.testBit k)) := by rw [hbs.cell, marks_get _ hlt]
      have hf := hbs.frozen k
      have HM := Lib.hid (mark_eq l k)
      have HH := Lib.hid (half l k)
      have hq : l / 2 ^ k < 18446744073709551616 := Nat.lt_of_le_of_lt (Nat.div_le_self _ _) hl
      generalize l / 2 ^ k = q at *
      go_wp2
      go_roundw
      case rel =>
        refine ⟨k + 1, by omega, by go_num, by rw [HH.out], ?_, hbr.far (by simp) _, hbl.setCell (by simp) _⟩
        have h1 := hbs.set_ k (.bool ((q : Int) % 2 == 1))
        rw [HM.out, marks_set] at h1
        rw [HM.out]
        rw [marks_congr (g := fun i => decide (i < k + 1) && l.testBit i) (fun i _ => by
          by_cases h : i = k
          · subst h; simp
          · have h' : i < k + 1 ↔ i < k := by omega
            simp [h, h'])] at h1
        exact h1
      case measure => simp [intOf]; omega
    · obtain rfl : k = 64 := by omega
      rw [marks_congr (g := l.testBit) (fun i hi => by simp; omega)] at hbs
      go_wp2_with (first
        | (refine wpList_load_row rfl 118 (.tmp 3) rfl (w.heap.size + 1) rfl 118 (marks l.testBit) (0, 0) _ hbs Tryd.underlying118 rfl (size_marks _) ?_)
        | (refine wpList_store_row rfl 118 (.tmp 2) (.tmp 18) rfl w.heap.size (marks l.testBit) rfl rfl 118 _ hbr (size_marks _) ((marks_size _).trans (marks_size _).symm) (marks_one _) ?_))
      refine bodyPost_ret (results_cell_row rfl _ _ w.heap.size 118 (marks l.testBit) (0, 0) _ rfl (hbr.setRow _) Tryd.underlying118 rfl (size_marks _)) rfl ?_
      exact ⟨rfl, below_setRow hbl (Nat.le_refl _) _⟩
end Go.Proofs.YtgmeamefbfgbgaaDoor

/-
  Contracts of the document's own answers, layer 1: Label, Join, Meet, Below.
-/
namespace Go.Proofs.YtgmeamefbfgbgaaDoor
open Go.RowKit

theorem bits_eq {a b : Nat} (ha : a < 18446744073709551616) (hb : b < 18446744073709551616) (h : ∀ i, i < 64 → a.testBit i = b.testBit i) : a = b := by
  refine Nat.eq_of_testBit_eq (fun i => ?_)
  by_cases hi : i < 64
  · exact h i hi
  · have e : ∀ {x : Nat}, x < 18446744073709551616 → x.testBit i = false := fun {x} hx =>
      Nat.testBit_lt_two_pow (Nat.lt_of_lt_of_le (show x < 2 ^ 64 from hx) (Nat.pow_le_pow_right (by decide) (by omega)))
    rw [e ha, e hb]

/-- the bits above k, moved down -/
def Upper (f : Nat → Bool) (k n : Nat) : Prop := n < 2 ^ (63 - k) ∧ ∀ j, j < 63 - k → n.testBit j = f (k + 1 + j)
theorem Upper.start (f : Nat → Bool) : Upper f 63 0 := ⟨by decide, fun j hj => absurd hj (by omega)⟩
theorem double_bit (n : Nat) (b : Bool) (j : Nat) : (2 * n + b.toNat).testBit j = if j = 0 then b else n.testBit (j - 1) := by
  cases j with
  | zero => cases b <;> simp [Nat.testBit_zero] <;> omega
  | succ j =>
    rw [Nat.testBit_succ]
    have : (2 * n + b.toNat) / 2 = n := by cases b <;> simp <;> omega
    rw [this]; simp
theorem Upper.lt {f : Nat → Bool} {k n : Nat} (h : Upper f k n) : n < 9223372036854775808 := Nat.lt_of_lt_of_le h.1 (show 2 ^ (63 - k) ≤ 2 ^ 63 from Nat.pow_le_pow_right (by decide) (by omega))
theorem Upper.down {f : Nat → Bool} {k n : Nat} (hk : k + 1 ≤ 63) (h : Upper f (k + 1) n) : Upper f k (2 * n + (f (k + 1)).toNat) := by
  have e : 63 - k = (63 - (k + 1)) + 1 := by omega
  refine ⟨?_, fun j hj => ?_⟩
  · have h1 := h.1
    rw [e, Nat.pow_succ]
    have : (f (k + 1)).toNat ≤ 1 := Bool.toNat_le _
    omega
  · rw [double_bit]
    by_cases h0 : j = 0
    · subst h0; simp
    · rw [if_neg h0, h.2 (j - 1) (by omega)]
      congr 1; omega
theorem Upper.last {f : Nat → Bool} {n : Nat} (h : Upper f 0 n) : 2 * n + (f 0).toNat < 18446744073709551616 ∧ ∀ i, i < 64 → (2 * n + (f 0).toNat).testBit i = f i := by
  refine ⟨?_, fun i hi => ?_⟩
  · have h1 := h.lt
    have : (f 0).toNat ≤ 1 := Bool.toNat_le _
    omega
  · rw [double_bit]
    by_cases h0 : i = 0
    · subst h0; simp
    · rw [if_neg h0, h.2 (i - 1) (by omega)]
      congr 1; omega

def IsLab (f : Nat → Bool) (n : Nat) : Prop := n < 18446744073709551616 ∧ ∀ i, i < 64 → n.testBit i = f i

theorem isLab_or {a b n : Nat} (ha : a < 18446744073709551616) (hb : b < 18446744073709551616) (h : IsLab (fun i => a.testBit i || b.testBit i) n) : n = a ||| b :=
  bits_eq h.1 (or_lt ha hb) (fun i hi => by rw [h.2 i hi]; simp)
theorem isLab_and {a b n : Nat} (ha : a < 18446744073709551616) (h : IsLab (fun i => a.testBit i && b.testBit i) n) : n = a &&& b :=
  bits_eq h.1 (and_lt b ha) (fun i hi => by rw [h.2 i hi]; simp)

theorem marks_step {f : Nat → Bool} {k : Nat} {b : Bool} (hb : b = f k) : marks (fun i => if i = k then b else decide (i < k) && f i) = marks (fun i => decide (i < k + 1) && f i) :=
  marks_congr fun i _ => by
    by_cases h : i = k
    · subst h; simp [hb]
    · have h' : i < k + 1 ↔ i < k := by omega
      simp [h, h']
theorem marks_end (f : Nat → Bool) : marks (fun i => decide (i < 64) && f i) = marks f := marks_congr fun i hi => by simp [hi]
theorem marks_begin (f : Nat → Bool) : marks (fun _ => false) = marks (fun i => decide (i < 0) && f i) := marks_congr fun i _ => by simp

end Go.Proofs.YtgmeamefbfgbgaaDoor

/-
  Contracts of the document's own answers, layer 1: Below, Place, Ints, Cats.
-/
namespace Go.Proofs.YtgmeamefbfgbgaaDoor
open Go.RowKit

theorem subB_iff (a b : Nat) : subB a b = true ↔ ∀ i, a.testBit i = true → b.testBit i = true := by
  unfold subB
  rw [beq_iff_eq]
  constructor
  · intro h i hi
    have h' : a &&& b = a := by omega
    have : (a &&& b).testBit i = a.testBit i := by rw [h']
    simp at this
    exact this hi
  · intro h
    have : a &&& b = a := Nat.eq_of_testBit_eq (fun i => by simp; exact h i)
    rw [this]
theorem high_bit {x i : Nat} (hx : x < 18446744073709551616) (hi : 64 ≤ i) : x.testBit i = false :=
  Nat.testBit_lt_two_pow (Nat.lt_of_lt_of_le (show x < 2 ^ 64 from hx) (Nat.pow_le_pow_right (by decide) hi))
theorem subB_no {a b k : Nat} (h1 : a.testBit k = true) (h2 : b.testBit k = false) : subB a b = false := by
  cases h : subB a b with
  | false => rfl
  | true => rw [(subB_iff a b).1 h k h1] at h2; cases h2
theorem subB_all {a b : Nat} (ha : a < 18446744073709551616) (h : ∀ i, i < 64 → a.testBit i = true → b.testBit i = true) : subB a b = true :=
  (subB_iff a b).2 fun i hi => by
    by_cases hlt : i < 64
    · exact h i hlt hi
    · rw [high_bit ha (by omega)] at hi; cases hi
theorem ret_boolL {a b : Bool} (h : a = b) : Ending.returned (.bool a) = .returned (.bool b) := by rw [h]

set_option maxHeartbeats 1000000 in
theorem refBelow_any (a b : Nat) (ha : a < 18446744073709551616) (hb : b < 18446744073709551616) (w : World) :
    Calls Tryd.prog 43 #[.int .u64 a, .int .u64 b] w fun e w' => e = .returned (.bool (subB a b)) ∧ Below w.heap.size w w' := by
  go_enter Tryd.func43, Tryd.ntmps43
  go_wp2_with fail
  refine (marks_any a ha _).mono ?_
  rintro e w1 ⟨rfl, hb1⟩
  go_wp2_with fail
  refine (marks_any b hb _).mono ?_
  rintro e w2 ⟨rfl, hb2⟩
  go_wp2_with (first
    | ((with_reducible refine at_alloc 5 118 ?_); refine wpList_newRow rfl 118 rfl _ zero_set ?_; intro w3 g1 hg1 hl1 hx hb3)
    | ((with_reducible refine at_alloc 6 118 ?_); refine wpList_newRow rfl 118 rfl _ zero_set ?_; intro w4 g2 hg2 hl2 hy hb4; have hx2 := hx.below hb4 hl1)
    | ((with_reducible refine at_store 118 (.tmp 5) (.tmp 9) ?_); refine wpList_setRow rfl 118 (.tmp 5) (.tmp 9) rfl g1 (marks a.testBit) rfl rfl 118 _ hx2 (size_marks _) ((marks_size _).trans (marks_size _).symm) (marks_one _) ?_; intro w5 hx5 hw5; have hy5 := hy.grown hw5 (by omega); have hs5 := hw5.size)
    | ((with_reducible refine at_store 118 (.tmp 6) (.tmp 11) ?_); refine wpList_setRow rfl 118 (.tmp 6) (.tmp 11) rfl g2 (marks b.testBit) rfl rfl 118 _ hy5 (size_marks _) ((marks_size _).trans (marks_size _).symm) (marks_one _) ?_; intro w6 hy6 hw6; have hx6 := hx5.grown hw6 (by omega); have hs6 := hw6.size))
  have z1 := hb1.size
  have z2 := hb2.size
  have z3 := hb3.size
  have z4 := hb4.size
  have hB : Below w.heap.size w w6 := (((((hb1.trans (hb2.mono z1)).trans (hb3.mono (by omega))).trans (hb4.mono (by omega))).trans (below_of_grown hw5 (by omega) (by omega))).trans (below_of_grown hw6 (by omega) (by omega)))
  clear hb1 hb2 hb3 hb4 hw5 hw6 hx hy hx2 hx5 hy5
  go_loop [7] (fun i => ∃ k : Nat, k ≤ 64 ∧ i = .int .i64 k ∧ ∀ j, j < k → a.testBit j = true → b.testBit j = true) (fun i => 64 - (intOf i).toNat)
  case atStart => exact ⟨0, by omega, rfl, fun j hj => absurd hj (by omega)⟩
  case round =>
    obtain ⟨k, hk, rfl, hall⟩ := hrel
    have HA : Hid (∀ j, j < k → a.testBit j = true → b.testBit j = true) := hall
    clear hall
    by_cases hlt : k < 64
    · have hc1 : w6.cell? ⟨g1, k, none⟩ = some (.bool (a.testBit k)) := by rw [hx6.cell, marks_get _ hlt]
      have hc2 : w6.cell? ⟨g2, k, none⟩ = some (.bool (b.testBit k)) := by rw [hy6.cell, marks_get _ hlt]
      cases hp : a.testBit k <;> cases hq : b.testBit k
      all_goals
        rw [hp] at hc1
        rw [hq] at hc2
        have HP := Lib.hid hp
        have HQ := Lib.hid hq
        clear hp hq
        go_wp2
      all_goals first
        | (go_ret; exact ⟨ret_boolL (subB_no HP.out HQ.out).symm, hB⟩)
        | skip
      all_goals
        go_round
        case rel =>
          refine ⟨k + 1, by omega, by go_num, fun j hj h => ?_⟩
          by_cases hjk : j = k
          · subst hjk; first | exact HQ.out | (rw [HP.out] at h; cases h)
          · exact HA.out j (by omega) h
        case measure => simp [intOf]; omega
    · obtain rfl : k = 64 := by omega
      go_wp2
      go_ret
      exact ⟨ret_boolL (subB_all ha HA.out).symm, hB⟩

end Go.Proofs.YtgmeamefbfgbgaaDoor

/-
  Contracts of the document's own answers, layer 1: JoinAll, Of.
-/
namespace Go.Proofs.YtgmeamefbfgbgaaDoor
open Go.RowKit

theorem joinAllN_bit (zs : List Nat) (z i : Nat) : (joinAllN (zs ++ [z])).testBit i = ((joinAllN zs).testBit i || z.testBit i) := by rw [joinAllN_snoc]; simp

theorem row_far {w : World} {B : Nat} {A : Option Addr} {xs : List Value} (h : Row w B A xs) {p : Addr} (hB : B ≤ p.block) (u : Value) : Row (w.setCell p u) B A xs :=
  h.below ((Below.refl _ _).setCell hB u)

theorem marks_mix {f g : Nat → Bool} {k : Nat} {b : Bool} (hb : b = g k) : marks (fun i => if i = k then b else if i < k then g i else f i) = marks (fun i => if i < k + 1 then g i else f i) :=
  marks_congr fun i _ => by
    by_cases h : i = k
    · subst h; simp [hb]
    · have h' : i < k + 1 ↔ i < k := by omega
      simp [h, h']
theorem marks_mix0 (f g : Nat → Bool) : marks f = marks (fun i => if i < 0 then g i else f i) := marks_congr fun i _ => by simp
theorem marks_mix64 (f g : Nat → Bool) : marks (fun i => if i < 64 then g i else f i) = marks g := marks_congr fun i hi => by simp [hi]

end Go.Proofs.YtgmeamefbfgbgaaDoor

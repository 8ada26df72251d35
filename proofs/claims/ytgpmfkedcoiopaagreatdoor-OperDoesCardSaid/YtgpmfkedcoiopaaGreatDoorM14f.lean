/-
  Merged: OpLand, OpLanS, OpLanJ, OpLanT.
-/
import Derived.Test.YtgpmfkedcoiopaaGreatDoorM14d
/-
  Changes of a string that follow one another, the last one made first; the lines of a cut; leading blanks: plain, layer 14.
-/
namespace Go.Proofs.YtgpmfkedcoiopaaGreatDoor
open Go.RowKit

/-- new bytes in place of some -/
structure ChP where
  f : Nat
  t : Nat
  put : List UInt8
section
variable {α : Type} (g : List UInt8 → List α)
/-- the last change is made first -/
def chgL (T : List α) : List ChP → List α
  | [] => T
  | c :: L => (chgL T L).take c.f ++ g c.put ++ (chgL T L).drop c.t
/-- the same, from a place on, piece by piece -/
def asmL (T : List α) : Nat → List ChP → List α
  | p, [] => T.drop p
  | p, c :: L => (T.drop p).take (c.f - p) ++ g c.put ++ asmL T c.t L
end
/-- changes lie one behind the other, from p on, in n bytes -/
def OrdC (n : Nat) : Nat → List ChP → Prop
  | p, [] => p ≤ n
  | p, c :: L => p ≤ c.f ∧ c.f ≤ c.t ∧ OrdC n c.t L
theorem OrdC.le {n : Nat} : ∀ {L : List ChP} {p : Nat}, OrdC n p L → p ≤ n
  | [], _, h => h
  | c :: L, p, h => by
    have := OrdC.le h.2.2
    have h1 := h.1
    have h2 := h.2.1
    omega
theorem OrdC.less {n : Nat} {L : List ChP} {p q : Nat} (h : OrdC n q L) (hp : p ≤ q) : OrdC n p L := by
  cases L with
  | nil => exact Nat.le_trans hp h
  | cons c L => exact ⟨Nat.le_trans hp h.1, h.2⟩
section
variable {α : Type} {g : List UInt8 → List α}
theorem chg_asm (T : List α) : ∀ (L : List ChP) (p : Nat), OrdC T.length p L → chgL g T L = T.take p ++ asmL g T p L
  | [], p, _ => (List.take_append_drop p T).symm
  | c :: L, p, h => by
    have hc := h.2.2.le
    have h1 := h.1
    have h2 := h.2.1
    have ih := chg_asm T L c.t h.2.2
    have hl : (T.take c.t).length = c.t := by rw [List.length_take]; omega
    show (chgL g T L).take c.f ++ g c.put ++ (chgL g T L).drop c.t = T.take p ++ ((T.drop p).take (c.f - p) ++ g c.put ++ asmL g T c.t L)
    rw [ih, List.take_append_of_le_length (by omega), List.take_take, Nat.min_eq_left (by omega), List.drop_left' hl]
    have e := List.take_add (l := T) (i := p) (j := c.f - p)
    rw [show p + (c.f - p) = c.f by omega] at e
    rw [e]
    simp only [List.append_assoc]
theorem asm_split (T : List α) {L : List ChP} {p q : Nat} (hpq : p ≤ q) (h : OrdC T.length q L) : asmL g T p L = (T.drop p).take (q - p) ++ asmL g T q L := by
  have key : ∀ n, q ≤ n → (T.drop p).take (n - p) = (T.drop p).take (q - p) ++ (T.drop q).take (n - q) := fun n hn => by
    have e := List.take_add (l := T.drop p) (i := q - p) (j := n - q)
    rw [show q - p + (n - q) = n - p by omega, List.drop_drop, show p + (q - p) = q by omega] at e
    exact e
  cases L with
  | nil =>
    show T.drop p = _ ++ T.drop q
    have e := (List.take_append_drop (q - p) (T.drop p)).symm
    rw [List.drop_drop, show p + (q - p) = q by omega] at e
    exact e
  | cons c L =>
    show (T.drop p).take (c.f - p) ++ g c.put ++ asmL g T c.t L = _ ++ ((T.drop q).take (c.f - q) ++ g c.put ++ asmL g T c.t L)
    rw [key c.f h.1]
    simp only [List.append_assoc]
theorem asm_len {g : List UInt8 → List α} (hg : ∀ x, (g x).length = x.length) {β : Type} {g' : List UInt8 → List β} (hg' : ∀ x, (g' x).length = x.length) {T : List α} {T' : List β} (h : T.length = T'.length) : ∀ L : List ChP, (chgL g T L).length = (chgL g' T' L).length
  | [] => h
  | c :: L => by
    have ih := asm_len hg hg' h L
    show ((chgL g T L).take c.f ++ g c.put ++ (chgL g T L).drop c.t).length = ((chgL g' T' L).take c.f ++ g' c.put ++ (chgL g' T' L).drop c.t).length
    simp only [List.length_append, List.length_take, List.length_drop, hg, hg', ih]
end
/-- how many blanks a line begins with -/
def inB (x : List UInt8) : Nat := (x.takeWhile fun b => decide (b = 32 ∨ b = 9)).length
theorem inB_le (x : List UInt8) : inB x ≤ x.length := (List.takeWhile_prefix _).length_le
theorem inB_cons (b : UInt8) (x : List UInt8) : inB (b :: x) = if b = 32 ∨ b = 9 then inB x + 1 else 0 := by
  unfold inB
  by_cases h : b = 32 ∨ b = 9
  · rw [if_pos h, List.takeWhile_cons_of_pos (by simpa using h)]; rfl
  · rw [if_neg h, List.takeWhile_cons_of_neg (by simpa using h)]; rfl
theorem inB_step {x : List UInt8} {p : Nat} (h : p < x.length) (hb : x[p] = 32 ∨ x[p] = 9) : p + inB (x.drop p) = p + 1 + inB (x.drop (p + 1)) := by
  rw [List.drop_eq_getElem_cons h, inB_cons, if_pos hb]; omega
theorem inB_stop {x : List UInt8} {p : Nat} (h : p < x.length) (hb : ¬ (x[p] = 32 ∨ x[p] = 9)) : p + inB (x.drop p) = p := by
  rw [List.drop_eq_getElem_cons h, inB_cons, if_neg hb]; omega
/-- what an operator changes of one line, the n-th, which begins at a place -/
def chP (op : Int) (p n : Nat) (x : List UInt8) : List ChP :=
  if op = 62 ∧ x ≠ [] then [⟨p, p, [9]⟩]
  else if op = 60 ∧ 0 < inB x then [⟨p, p + 1, []⟩]
  else if op = 74 ∧ 0 < n ∧ inB x = x.length then [⟨p - 1, p + inB x, []⟩]
  else if op = 74 ∧ 0 < n then [⟨p - 1, p + inB x, [32]⟩]
  else []
def chsL (op : Int) : Nat → Nat → List (List UInt8) → List ChP
  | _, _, [] => []
  | p, n, x :: r => chP op p n x ++ chsL op (p + x.length + 1) (n + 1) r
def totL (r : List (List UInt8)) : Nat := (r.map fun x => x.length + 1).sum
theorem totL_cons (x : List UInt8) (r : List (List UInt8)) : totL (x :: r) = x.length + 1 + totL r := by simp [totL]
theorem tot_lines (S : List UInt8) : totL (linesOf S) = S.length + 1 := by
  induction S with
  | nil => rfl
  | cons b t ih =>
    unfold linesOf
    by_cases h : b = 10
    · rw [if_pos h, totL_cons, ih]; simp; omega
    · rw [if_neg h, totL_cons]
      rcases hl : linesOf t with _ | ⟨x, r⟩
      · exact absurd hl (linesOf_ne t)
      · rw [hl, totL_cons] at ih
        simp only [List.headD_cons, List.tail_cons, List.length_cons]
        omega
theorem ord_shift {op : Int} (hop : op ≠ 74) {N : Nat} : ∀ (r : List (List UInt8)) (p n : Nat), p ≤ N → p + totL r ≤ N + 1 → OrdC N p (chsL op p n r)
  | [], p, _, h, _ => h
  | x :: r, p, n, h, ht => by
    rw [totL_cons] at ht
    have hx := inB_le x
    have h1 : OrdC N (p + x.length) (chsL op (p + x.length + 1) (n + 1) r) := by
      rcases r with _ | ⟨z, r⟩
      · show p + x.length ≤ N; simp [totL] at ht; omega
      · refine (ord_shift hop (z :: r) (p + x.length + 1) (n + 1) ?_ (by omega)).less (by omega)
        rw [totL_cons] at ht; omega
    show OrdC N p (chP op p n x ++ _)
    unfold chP
    by_cases c1 : op = 62 ∧ x ≠ []
    · rw [if_pos c1]; exact ⟨Nat.le_refl _, Nat.le_refl _, h1.less (by show p ≤ _; omega)⟩
    rw [if_neg c1]
    by_cases c2 : op = 60 ∧ 0 < inB x
    · rw [if_pos c2]; exact ⟨Nat.le_refl _, by show p ≤ p + 1; omega, h1.less (by show p + 1 ≤ _; omega)⟩
    rw [if_neg c2, if_neg (fun h => hop h.1), if_neg (fun h => hop h.1)]
    exact h1.less (by omega)
theorem ord_join {N : Nat} : ∀ (r : List (List UInt8)) (p n : Nat), 0 < n → 0 < p → p - 1 ≤ N → p + totL r ≤ N + 1 → OrdC N (p - 1) (chsL 74 p n r)
  | [], p, _, _, _, h, _ => h
  | x :: r, p, n, hn, hp, h, ht => by
    rw [totL_cons] at ht
    have hx := inB_le x
    have h1 : OrdC N (p + x.length) (chsL 74 (p + x.length + 1) (n + 1) r) := ord_join r (p + x.length + 1) (n + 1) (by omega) (by omega) (by omega) (by omega)
    show OrdC N (p - 1) (chP 74 p n x ++ _)
    unfold chP
    rw [if_neg (fun h => absurd h.1 (by decide)), if_neg (fun h => absurd h.1 (by decide))]
    by_cases c3 : (74 : Int) = 74 ∧ 0 < n ∧ inB x = x.length
    · rw [if_pos c3]; exact ⟨Nat.le_refl _, by show p - 1 ≤ p + inB x; omega, h1.less (by show p + inB x ≤ _; omega)⟩
    · rw [if_neg c3, if_pos ⟨rfl, hn⟩]
      exact ⟨Nat.le_refl _, by show p - 1 ≤ p + inB x; omega, h1.less (by show p + inB x ≤ _; omega)⟩
theorem ord_join0 {N : Nat} {x : List UInt8} {r : List (List UInt8)} (ht : totL (x :: r) ≤ N + 1) : OrdC N x.length (chsL 74 0 0 (x :: r)) := by
  rw [totL_cons] at ht
  show OrdC N x.length (chP 74 0 0 x ++ chsL 74 (0 + x.length + 1) (0 + 1) r)
  unfold chP
  rw [if_neg (fun h => absurd h.1 (by decide)), if_neg (fun h => absurd h.1 (by decide)), if_neg (fun h => absurd h.2.1 (by decide)), if_neg (fun h => absurd h.2 (by decide)), List.nil_append, Nat.zero_add]
  exact ord_join r (x.length + 1) 1 (by omega) (by omega) (by omega) (by omega)
/-- the lines a to b of a text are the lines of their bytes -/
theorem lines_cut {V : List UInt8} {a b : Nat} (hab : a ≤ b) (hb : b < countL V) : linesOf ((V.drop (begL V a)).take (endL V b - begL V a)) = ((linesOf V).drop a).take (b + 1 - a) := by
  have ha : a < countL V := by omega
  have hF := beg_le ha
  have hE := end_le hb
  have hFE : begL V a ≤ endL V b := Nat.le_trans (beg_mono hab hb) (beg_end hb)
  have h1 := lines_from ha
  obtain ⟨U, hU⟩ : ∃ U, V.drop (begL V a) = U := ⟨_, rfl⟩
  rw [hU] at h1 ⊢
  have hUl : U.length = V.length - begL V a := by rw [← hU, List.length_drop]
  have hcU : countL U = countL V - a := by rw [← linesOf_count U, h1, List.length_drop, linesOf_count]
  have hcE := end_count hb
  have hcF : (V.take (begL V a)).count 10 = a := by rw [← endsTo_count]; exact beg_ends ha
  have e : V.take (endL V b) = V.take (begL V a) ++ U.take (endL V b - begL V a) := by
    have := List.take_add (l := V) (i := begL V a) (j := endL V b - begL V a)
    rwa [show begL V a + (endL V b - begL V a) = endL V b by omega, hU] at this
  rw [e, List.count_append, hcF] at hcE
  have hx : endL U (b - a) = endL V b - begL V a := by
    refine end_unique (by omega) (by omega) ?_
    rcases end_is hb with h | h
    · left; omega
    · right
      rw [← hU, List.getElem?_drop, show begL V a + (endL V b - begL V a) = endL V b by omega]
      exact h
  rw [← h1, ← hx, show b + 1 - a = b - a + 1 by omega]
  rcases Nat.lt_or_ge (b - a + 1) (countL U) with h2 | h2
  · exact (lines_drop h2).1
  · rw [ends_last (by omega), List.take_length, List.take_of_length_le (by rw [linesOf_count]; omega)]
theorem line_cut {V : List UInt8} {a b k : Nat} (hb : b < countL V) (hk : a + k ≤ b) : (((linesOf V).drop a).take (b + 1 - a)).drop k = lineL V (a + k) :: (((linesOf V).drop a).take (b + 1 - a)).drop (k + 1) := by
  have hl := linesOf_count V
  have hlt : k < (((linesOf V).drop a).take (b + 1 - a)).length := by rw [List.length_take, List.length_drop]; omega
  rw [List.drop_eq_getElem_cons hlt]
  congr 1
  have h := lineL_get (S := V) (n := a + k) (by omega)
  rw [List.getElem_take, List.getElem_drop]
  rw [List.getElem?_eq_getElem (by omega)] at h
  exact Option.some.inj h
theorem lineL_len {V : List UInt8} {n : Nat} (h : n < countL V) : (lineL V n).length = endL V n - begL V n := by
  have := end_le h
  have := beg_end h
  unfold lineL
  rw [List.length_take, List.length_drop]
  omega
theorem cut_of_cut {α : Type} (X : List α) {F N p n : Nat} (h : p + n ≤ N) : (((X.drop F).take N).drop p).take n = (X.drop (F + p)).take n := by
  rw [List.drop_take, List.take_take, List.drop_drop, Nat.min_eq_left (by omega)]
theorem tot_from {V : List UInt8} {a b : Nat} (hab : a ≤ b) (hb : b < countL V) : ∀ j, a + j ≤ b + 1 → totL (((linesOf V).drop a).take (b + 1 - a)) = (begL V (a + j) - begL V a) + totL ((((linesOf V).drop a).take (b + 1 - a)).drop j)
  | 0, _ => by simp
  | j + 1, hj => by
    rw [tot_from hab hb j (by omega), line_cut hb (by omega), totL_cons, lineL_len (by omega)]
    have h1 := beg_end (S := V) (n := a + j) (by omega)
    have h2 := beg_mono (S := V) (a := a) (b := a + j) (by omega) (by omega)
    rw [show a + (j + 1) = a + j + 1 by omega, beg_succ]
    omega
end Go.Proofs.YtgpmfkedcoiopaaGreatDoor

/-
  What > and < and J change, piece by piece, is the document's pile: plain, layer 14.
-/
namespace Go.Proofs.YtgpmfkedcoiopaaGreatDoor
open Go.RowKit

/-- where line number n begins without its first blank, if < takes one -/
def lowA (V : List UInt8) (op : Int) (n : Nat) : Nat := if op = 60 ∧ begL V n < endL V n ∧ classA V (begL V n) = 0 then begL V n + 1 else begL V n
/-- where the part that is taken next begins -/
def ekV (V : List UInt8) (a b k : Nat) : Nat := if a + k ≤ b then begL V (a + k) else endL V b
section
variable {α : Type} (X : List α) (c : α) (V : List UInt8) (op : Int) (a b : Nat)
def pcA (k : Nat) : List α := (if op = 62 ∧ begL V (a + k) < endL V (a + k) then [c] else []) ++ (X.drop (lowA V op (a + k))).take (ekV V a b (k + 1) - lowA V op (a + k))
def shA : Nat → List α
  | 0 => []
  | k + 1 => shA k ++ pcA X c V op a b k
end
theorem ekV_line {V : List UInt8} {a b k : Nat} (hk : a + k ≤ b) : ekV V a b (k + 1) = if ((a + k : Nat) : Int) < (b : Int) then endL V (a + k) + 1 else endL V (a + k) := by
  unfold ekV
  by_cases h : a + (k + 1) ≤ b
  · rw [if_pos h, if_pos (by omega), show a + (k + 1) = a + k + 1 by omega, beg_succ]
  · rw [if_neg h, if_neg (by omega), show b = a + k by omega]
theorem ekV_facts {V : List UInt8} {a b k : Nat} (hb : b < countL V) (hk : a + k ≤ b) : endL V (a + k) ≤ ekV V a b (k + 1) ∧ ekV V a b (k + 1) ≤ endL V b ∧ ekV V a b (k + 1) ≤ endL V (a + k) + 1 ∧ begL V (a + k) ≤ endL V (a + k) ∧ endL V b ≤ V.length := by
  have h1 := beg_end (S := V) (n := a + k) (by omega)
  have h2 := end_le hb
  unfold ekV
  by_cases h : a + (k + 1) ≤ b
  · rw [if_pos h, show a + (k + 1) = a + k + 1 by omega]
    have h3 := beg_mono (S := V) (a := a + k + 1) (b := b) (by omega) hb
    have h4 := beg_end hb
    rw [beg_succ] at h3 ⊢
    exact ⟨by omega, by omega, by omega, h1, h2⟩
  · rw [if_neg h]
    obtain rfl : b = a + k := by omega
    exact ⟨by omega, by omega, by omega, h1, h2⟩
theorem lowA_facts {V : List UInt8} {op : Int} {n : Nat} (h : n < countL V) : begL V n ≤ lowA V op n ∧ lowA V op n ≤ endL V n := by
  have := beg_end h
  unfold lowA
  split
  · next h => exact ⟨by omega, by omega⟩
  · exact ⟨by omega, by omega⟩
/-- the document's pile for > and < -/
theorem shList_is {S : List UInt8} {l : List RunP} (hg : goodT S l = true) {V : List UInt8} (hV : V.length = S.length) (y : Nat) (op : Int) {a b : Nat} (hb : b < countL V) : ∀ k, a + k ≤ b + 1 →
    goodC (shList S l V y op a b k) = true ∧ bytesC (shList S l V y op a b k) = shA S 9 V op a b k ∧ labsC (shList S l V y op a b k) = shA (bytesOf l) y V op a b k
  | 0, _ => ⟨rfl, rfl, rfl⟩
  | k + 1, hk => by
    obtain ⟨i1, i2, i3⟩ := shList_is (a := a) hg hV y op hb k (by omega)
    obtain ⟨e1, e2, e3, e4, e5⟩ := ekV_facts (a := a) (k := k) hb (by omega)
    obtain ⟨g1, g2⟩ := lowA_facts (op := op) (show a + k < countL V by omega)
    have e : ((a : Int) + (k : Nat)) = ((a + k : Nat) : Int) := by omega
    obtain ⟨p1, p2, p3⟩ := shPiece_is hg (V := V) (y := y) (op := op) (n := a + k) (T := b) (a := lowA V op (a + k)) (b := ekV V a b (k + 1)) (by omega) rfl (ekV_line (by omega)) (by omega) (by omega)
    have hs : shList S l V y op a b (k + 1) = shList S l V y op a b k ++ shPiece S l V y op b ((a + k : Nat) : Int) := by
      rw [← e]; rfl
    refine ⟨?_, ?_, ?_⟩
    · rw [hs, goodC_app, i1, p1]; rfl
    · rw [hs, bytesC_app, i2, p2]; rfl
    · rw [hs, labsC_app, i3, p3]; rfl
theorem class_at {W : List UInt8} {p : Nat} (hb : Beg W p) (h : p < W.length) : classA W p = classL (dec (W.drop p)).1 := by
  obtain ⟨i, hi, rfl⟩ := hb
  have hw : whichM (chars W) (width ((chars W).take i) : Nat) = i := ((which_self hi).unique (which_is _ _)).symm
  have hr := (read_take hi).getD h
  have hl : ((chars W).take i).length = i := by rw [List.length_take]; omega
  rw [hl] at hr
  unfold classA
  rw [hw, hr]
theorem dec_big {t : List UInt8} (h : 128 ≤ (t.getD 0 0).toNat) : 128 ≤ (dec t).1 := by
  unfold dec
  dsimp only
  rw [if_neg (by omega)]
  have h1 := (t.getD 1 0).toNat_lt
  repeat' split
  all_goals first
    | (simp only [Bool.and_eq_true, decide_eq_true_iff, ge_iff_le] at *; omega)
    | (show 128 ≤ 65533; omega)
theorem dec_low {t : List UInt8} (h : (t.getD 0 0).toNat < 128) : dec t = ((t.getD 0 0).toNat, 1) := by
  unfold dec
  dsimp only
  rw [if_pos (by omega)]
theorem class_blank {b : UInt8} {t : List UInt8} : classL (dec (b :: t)).1 = 0 ↔ b = 32 ∨ b = 9 := by
  have hb : ∀ n : Nat, n < 256 → (b = UInt8.ofNat n ↔ b.toNat = n) := fun n hn => by
    constructor
    · rintro rfl; rw [UInt8.toNat_ofNat', Nat.mod_eq_of_lt hn]
    · intro h; rw [← h]; simp
  have h32 := hb 32 (by decide)
  have h9 := hb 9 (by decide)
  rw [show b = 32 ↔ b.toNat = 32 from h32, show b = 9 ↔ b.toNat = 9 from h9]
  by_cases h : b.toNat < 128
  · rw [dec_low (t := b :: t) h]
    show classL b.toNat = 0 ↔ _
    unfold classL
    repeat' split
    all_goals omega
  · have h1 := dec_big (t := b :: t) (by show 128 ≤ b.toNat; omega)
    generalize (dec (b :: t)).1 = r at *
    unfold classL
    repeat' split
    all_goals omega
theorem low_line {V : List UInt8} {n : Nat} (h : n < countL V) : (begL V n < endL V n ∧ classA V (begL V n) = 0) ↔ 0 < inB (lineL V n) := by
  have he := end_le h
  by_cases hlt : begL V n < endL V n
  · have hl : begL V n < V.length := by omega
    rw [class_at (Beg.begL h) hl]
    unfold lineL
    obtain ⟨m, hm⟩ : ∃ m, endL V n - begL V n = m + 1 := ⟨endL V n - begL V n - 1, by omega⟩
    rw [hm, List.drop_eq_getElem_cons hl, List.take_succ_cons, inB_cons, class_blank]
    constructor
    · rintro ⟨_, h⟩; rw [if_pos h]; omega
    · intro h
      refine ⟨hlt, ?_⟩
      by_cases hc : V[begL V n] = 32 ∨ V[begL V n] = 9
      · exact hc
      · rw [if_neg hc] at h; omega
  · constructor
    · rintro ⟨h, _⟩; omega
    · intro h1
      have := inB_le (lineL V n)
      rw [lineL_len h] at this
      omega
/-- > and <, piece by piece -/
theorem asm_shift {α : Type} {g : List UInt8 → List α} {c : α} (h9 : g [9] = [c]) (h0 : g [] = []) {V : List UInt8} {op : Int} (hop : op = 62 ∨ op = 60) {a b : Nat} (hab : a ≤ b) (hb : b < countL V) (X : List α) (hX : V.length = X.length) : ∀ k, a + k ≤ b + 1 →
    asmL g ((X.drop (begL V a)).take (endL V b - begL V a)) 0 (chsL op 0 0 (((linesOf V).drop a).take (b + 1 - a))) =
      shA X c V op a b k ++ asmL g ((X.drop (begL V a)).take (endL V b - begL V a)) (ekV V a b k - begL V a) (chsL op (begL V (a + k) - begL V a) k ((((linesOf V).drop a).take (b + 1 - a)).drop k))
  | 0, _ => by
    have e0 : ekV V a b 0 = begL V a := if_pos (by omega)
    rw [e0]
    simp only [List.drop_zero, Nat.add_zero, Nat.sub_self]
    rfl
  | k + 1, hk => by
    rw [asm_shift h9 h0 hop hab hb X hX k (by omega)]
    obtain ⟨e1, e2, e3, e4, e5⟩ := ekV_facts (a := a) (k := k) hb (show a + k ≤ b by omega)
    have hF := beg_mono (S := V) (a := a) (b := a + k) (by omega) (by omega)
    have ek : ekV V a b k = begL V (a + k) := if_pos (by omega)
    have hTl : ((X.drop (begL V a)).take (endL V b - begL V a)).length = endL V b - begL V a := by rw [List.length_take, List.length_drop]; omega
    have hlen := lineL_len (V := V) (n := a + k) (by omega)
    have hin := inB_le (lineL V (a + k))
    have hlow := low_line (V := V) (n := a + k) (by omega)
    have htot : totL ((((linesOf V).drop a).take (b + 1 - a)).drop (k + 1)) + (begL V (a + k + 1) - begL V a) ≤ endL V b - begL V a + 1 := by
      have ht := tot_lines ((V.drop (begL V a)).take (endL V b - begL V a))
      rw [lines_cut hab hb] at ht
      have hVl : ((V.drop (begL V a)).take (endL V b - begL V a)).length = endL V b - begL V a := by rw [List.length_take, List.length_drop]; omega
      rw [hVl] at ht
      have := tot_from hab hb (k + 1) hk
      rw [show a + (k + 1) = a + k + 1 by omega] at this
      omega
    generalize hT : (X.drop (begL V a)).take (endL V b - begL V a) = T at *
    rw [line_cut hb (by omega)]
    have hR : OrdC T.length (ekV V a b (k + 1) - begL V a) (chsL op (begL V (a + k + 1) - begL V a) (k + 1) ((((linesOf V).drop a).take (b + 1 - a)).drop (k + 1))) := by
      rw [hTl]
      unfold ekV
      by_cases h : a + (k + 1) ≤ b
      · rw [if_pos h, show a + (k + 1) = a + k + 1 by omega]
        have h3 := beg_mono (S := V) (a := a + k + 1) (b := b) (by omega) hb
        have h4 := beg_end hb
        refine ord_shift (by rcases hop with rfl | rfl <;> decide) _ _ _ (by omega) (by omega)
      · rw [if_neg h]
        have hnil : (((linesOf V).drop a).take (b + 1 - a)).drop (k + 1) = [] := by
          rw [List.drop_eq_nil_iff, List.length_take]; omega
        rw [hnil]
        exact Nat.le_refl _
    have hat : begL V (a + k) - begL V a + (lineL V (a + k)).length + 1 = begL V (a + k + 1) - begL V a := by
      rw [hlen, beg_succ]; omega
    show _ ++ asmL g T _ (chP op _ k (lineL V (a + k)) ++ chsL op (_ + (lineL V (a + k)).length + 1) (k + 1) _) = _
    rw [hat, show a + (k + 1) = a + k + 1 by omega]
    generalize chsL op (begL V (a + k + 1) - begL V a) (k + 1) ((((linesOf V).drop a).take (b + 1 - a)).drop (k + 1)) = R at *
    have hcc : ∀ q, begL V a ≤ q → q ≤ ekV V a b (k + 1) → (T.drop (q - begL V a)).take (ekV V a b (k + 1) - begL V a - (q - begL V a)) = (X.drop q).take (ekV V a b (k + 1) - q) := fun q h1 h2 => by
      rw [← hT, cut_of_cut X (by omega), show begL V a + (q - begL V a) = q by omega, show ekV V a b (k + 1) - begL V a - (q - begL V a) = ekV V a b (k + 1) - q by omega]
    show _ = (shA X c V op a b k ++ pcA X c V op a b k) ++ _
    rw [List.append_assoc]
    congr 1
    rw [ek]
    unfold pcA chP lowA
    rw [if_neg (show ¬ (op = 74 ∧ 0 < k ∧ _) from fun h => by have := h.1; omega), if_neg (show ¬ (op = 74 ∧ 0 < k) from fun h => by have := h.1; omega)]
    have hne : lineL V (a + k) ≠ [] ↔ begL V (a + k) < endL V (a + k) := by
      rw [← List.length_pos_iff, hlen]; omega
    by_cases c1 : op = 62 ∧ lineL V (a + k) ≠ []
    · rw [if_pos c1, if_pos ⟨c1.1, hne.1 c1.2⟩, if_neg (fun h => by have := h.1; have := c1.1; omega)]
      show (T.drop _).take (begL V (a + k) - begL V a - (begL V (a + k) - begL V a)) ++ g [9] ++ asmL g T (begL V (a + k) - begL V a) R = _
      rw [Nat.sub_self, List.take_zero, h9, asm_split T (q := ekV V a b (k + 1) - begL V a) (by omega) hR, hcc _ hF (by omega)]
      simp only [List.nil_append, List.append_assoc]
    · rw [if_neg c1]
      have c1' : ¬ (op = 62 ∧ begL V (a + k) < endL V (a + k)) := fun h => c1 ⟨h.1, hne.2 h.2⟩
      rw [if_neg c1']
      by_cases c2 : op = 60 ∧ 0 < inB (lineL V (a + k))
      · have hl := hlow.2 c2.2
        rw [if_pos c2, if_pos ⟨c2.1, hl⟩]
        show (T.drop _).take (begL V (a + k) - begL V a - (begL V (a + k) - begL V a)) ++ g [] ++ asmL g T (begL V (a + k) - begL V a + 1) R = _
        rw [Nat.sub_self, List.take_zero, h0, show begL V (a + k) - begL V a + 1 = begL V (a + k) + 1 - begL V a by omega, asm_split T (q := ekV V a b (k + 1) - begL V a) (by have := hl.1; omega) hR, hcc _ (by omega) (by have := hl.1; omega)]
        rfl
      · have c2' : ¬ (op = 60 ∧ begL V (a + k) < endL V (a + k) ∧ classA V (begL V (a + k)) = 0) := fun h => c2 ⟨h.1, hlow.1 h.2⟩
        rw [if_neg c2, if_neg c2', List.nil_append, List.nil_append, asm_split T (q := ekV V a b (k + 1) - begL V a) (by omega) hR, hcc _ hF (by omega)]
end Go.Proofs.YtgpmfkedcoiopaaGreatDoor

/-
  What J changes, piece by piece, is the document's pile; changes of a labelled text: plain, layer 14.
-/
namespace Go.Proofs.YtgpmfkedcoiopaaGreatDoor
open Go.RowKit

section
variable {α : Type} (X : List α) (c : α) (V : List UInt8) (a : Nat)
def pcJ (n : Nat) : List α := (if blankB V (endL V n) (begL V n) < endL V n then [c] else []) ++ (X.drop (blankB V (endL V n) (begL V n))).take (endL V n - blankB V (endL V n) (begL V n))
def joA : Nat → List α
  | 0 => (X.drop (begL V a)).take (endL V a - begL V a)
  | k + 1 => joA k ++ pcJ X c V (a + 1 + k)
end
theorem cut_goodO {S : List UInt8} {l : List RunP} (hg : goodT S l = true) {p q : Nat} (hpq : p ≤ q) (hq : q ≤ S.length) :
    (cutOf S l (p : Int) (q : Int)) = (((S.drop p).take (q - p), pack (((bytesOf l).drop p).take (q - p))), 0) ∧ goodT ((S.drop p).take (q - p)) (pack (((bytesOf l).drop p).take (q - p))) = true := by
  have hw := within_nat hg hpq hq
  have e1 : ((p : Int)).toNat = p := by omega
  have e2 : ((q : Int) - (p : Int)).toNat = q - p := by omega
  have hc : cut (bytesOf l) (p : Int) (q : Int) = ((bytesOf l).drop p).take (q - p) := by unfold cut; rw [e1, e2]
  have hcut : cutOf S l (p : Int) (q : Int) = (((S.drop p).take (q - p), pack (((bytesOf l).drop p).take (q - p))), 0) := by
    unfold cutOf
    rw [if_pos hw, hc, e1, e2]
  refine ⟨hcut, ?_⟩
  have h0 : (cutOf S l (p : Int) (q : Int)).2 = 0 := by rw [hcut]
  have := cut_good h0
  rwa [hcut] at this
theorem joPiece_is {S : List UInt8} {l : List RunP} (hg : goodT S l = true) {V : List UInt8} (hV : V.length = S.length) (y : Nat) {n : Nat} (hn : n < countL V) :
    goodC (joPiece S l V y n) = true ∧ bytesC (joPiece S l V y n) = pcJ S 32 V n ∧ labsC (joPiece S l V y n) = pcJ (bytesOf l) y V n := by
  have hbe := beg_end hn
  have hel := end_le hn
  obtain ⟨b1, b2⟩ := blankB_le (V := V) hbe
  obtain ⟨hcut, hgc⟩ := cut_goodO hg b2 (by omega)
  have hm : (makeOf [32] y).1 = ([32], pack (List.replicate 1 y)) := by unfold makeOf; rw [if_pos (by decide)]; rfl
  have hgm : goodT [32] (pack [y]) = true := by
    refine (goodT_iff _ _).2 ⟨goodB_pack (by simp), ?_⟩
    rw [bytesOf_pack]; rfl
  have hp : joPiece S l V y n = (if blankB V (endL V n) (begL V n) < endL V n then [([32], pack (List.replicate 1 y))] else []) ++ [((S.drop (blankB V (endL V n) (begL V n))).take (endL V n - blankB V (endL V n) (begL V n)), pack (((bytesOf l).drop (blankB V (endL V n) (begL V n))).take (endL V n - blankB V (endL V n) (begL V n))))] := by
    unfold joPiece
    dsimp only
    rw [boundsL_nat hn]
    dsimp only
    rw [hcut, hm]
  rw [hp]
  unfold goodC bytesC labsC pcJ
  by_cases h : blankB V (endL V n) (begL V n) < endL V n
  · rw [if_pos h, if_pos h, if_pos h]
    refine ⟨by simp [hgc, hgm], by simp, ?_⟩
    simp only [List.cons_append, List.nil_append, List.flatMap_cons, List.flatMap_nil, List.append_nil, bytesOf_pack]
    rfl
  · rw [if_neg h, if_neg h, if_neg h]
    refine ⟨by simp [hgc], by simp, ?_⟩
    simp only [List.nil_append, List.flatMap_cons, List.flatMap_nil, List.append_nil, bytesOf_pack]
theorem joList_is {S : List UInt8} {l : List RunP} (hg : goodT S l = true) {V : List UInt8} (hV : V.length = S.length) (y : Nat) {a : Nat} : ∀ k, a + k < countL V →
    goodC (joList S l V y a k) = true ∧ bytesC (joList S l V y a k) = joA S 32 V a k ∧ labsC (joList S l V y a k) = joA (bytesOf l) y V a k
  | 0, hk => by
    have hbe := beg_end (S := V) (n := a) hk
    have hel := end_le (S := V) (n := a) hk
    obtain ⟨hcut, hgc⟩ := cut_goodO hg hbe (by omega)
    have hp : joList S l V y a 0 = [((S.drop (begL V a)).take (endL V a - begL V a), pack (((bytesOf l).drop (begL V a)).take (endL V a - begL V a)))] := by
      unfold joList
      rw [boundsL_nat (n := a) hk]
      dsimp only
      rw [hcut]
    rw [hp]
    unfold goodC bytesC labsC joA
    refine ⟨by simp [hgc], by simp, ?_⟩
    simp only [List.flatMap_cons, List.flatMap_nil, List.append_nil, bytesOf_pack]
  | k + 1, hk => by
    obtain ⟨i1, i2, i3⟩ := joList_is (a := a) hg hV y k (by omega)
    have e : ((a : Int) + 1 + (k : Nat)) = ((a + 1 + k : Nat) : Int) := by omega
    obtain ⟨p1, p2, p3⟩ := joPiece_is hg hV y (n := a + 1 + k) (by omega)
    have hs : joList S l V y a (k + 1) = joList S l V y a k ++ joPiece S l V y ((a + 1 + k : Nat) : Int) := by
      rw [← e]; rfl
    refine ⟨?_, ?_, ?_⟩
    · rw [hs, goodC_app, i1, p1]; rfl
    · rw [hs, bytesC_app, i2, p2]; rfl
    · rw [hs, labsC_app, i3, p3]; rfl
theorem skip_inB (V : List UInt8) (t : Nat) (ht : t ≤ V.length) : ∀ k x, x ≤ t → t - x ≤ k → skipB V t k x = x + inB ((V.drop x).take (t - x))
  | 0, x, h, hk => by
    obtain rfl : x = t := by omega
    rw [Nat.sub_self, List.take_zero]
    rfl
  | k + 1, x, h, hk => by
    unfold skipB
    rcases Nat.lt_or_ge x t with hlt | hge
    · have hl : x < V.length := by omega
      have hgD : V.getD x 0 = V[x] := by rw [List.getD_eq_getElem?_getD, List.getElem?_eq_getElem hl]; rfl
      obtain ⟨m, hm⟩ : ∃ m, t - x = m + 1 := ⟨t - x - 1, by omega⟩
      rw [hm, List.drop_eq_getElem_cons hl, List.take_succ_cons, inB_cons, hgD]
      by_cases hc : V[x] = 32 ∨ V[x] = 9
      · rw [if_pos ⟨hlt, hc⟩, if_pos hc, skip_inB V t ht k (x + 1) (by omega) (by omega), show t - (x + 1) = m by omega]
        omega
      · rw [if_neg (fun h => hc h.2), if_neg hc]; rfl
    · obtain rfl : x = t := by omega
      rw [if_neg (by omega), Nat.sub_self, List.take_zero]
      rfl
theorem blank_inB {V : List UInt8} {n : Nat} (h : n < countL V) : blankB V (endL V n) (begL V n) = begL V n + inB (lineL V n) := by
  unfold blankB lineL
  exact skip_inB V _ (end_le h) _ _ (beg_end h) (Nat.le_refl _)
/-- J, piece by piece -/
theorem asm_join {α : Type} {g : List UInt8 → List α} {c : α} (h32 : g [32] = [c]) (h0 : g [] = []) {V : List UInt8} {a b : Nat} (hab : a ≤ b) (hb : b < countL V) (X : List α) (hX : V.length = X.length) : ∀ k, a + k ≤ b →
    asmL g ((X.drop (begL V a)).take (endL V b - begL V a)) 0 (chsL 74 0 0 (((linesOf V).drop a).take (b + 1 - a))) =
      joA X c V a k ++ asmL g ((X.drop (begL V a)).take (endL V b - begL V a)) (endL V (a + k) - begL V a) (chsL 74 (begL V (a + k + 1) - begL V a) (k + 1) ((((linesOf V).drop a).take (b + 1 - a)).drop (k + 1))) := by
  have hEl := end_le hb
  have hTl : ((X.drop (begL V a)).take (endL V b - begL V a)).length = endL V b - begL V a := by rw [List.length_take, List.length_drop]; omega
  have hFE : begL V a ≤ endL V b := Nat.le_trans (beg_mono hab hb) (beg_end hb)
  have htt : totL (((linesOf V).drop a).take (b + 1 - a)) = endL V b - begL V a + 1 := by
    rw [← lines_cut hab hb, tot_lines, List.length_take, List.length_drop]; omega
  -- what is left from line k + 1 on
  have hR : ∀ k, a + k ≤ b → OrdC (endL V b - begL V a) (endL V (a + k) - begL V a) (chsL 74 (begL V (a + k + 1) - begL V a) (k + 1) ((((linesOf V).drop a).take (b + 1 - a)).drop (k + 1))) := fun k hk => by
    have hbe := beg_end (S := V) (n := a + k) (by omega)
    have hF := beg_mono (S := V) (a := a) (b := a + k) (by omega) (by omega)
    have hbs := beg_succ V (a + k)
    have hend : endL V (a + k) ≤ endL V b := by
      rcases Nat.lt_or_ge (a + k) b with h | h
      · have h3 := beg_mono (S := V) (a := a + k + 1) (b := b) (by omega) hb
        have h4 := beg_end hb
        omega
      · obtain rfl : b = a + k := by omega
        exact Nat.le_refl _
    have ht := tot_from hab hb (k + 1) (by omega)
    rw [show a + (k + 1) = a + k + 1 by omega, htt] at ht
    have := ord_join (N := endL V b - begL V a) ((((linesOf V).drop a).take (b + 1 - a)).drop (k + 1)) (begL V (a + k + 1) - begL V a) (k + 1) (by omega) (by omega) (by omega) (by omega)
    rwa [show begL V (a + k + 1) - begL V a - 1 = endL V (a + k) - begL V a by omega] at this
  have hcc : ∀ p q, begL V a ≤ p → p ≤ q → q ≤ endL V b → ((((X.drop (begL V a)).take (endL V b - begL V a))).drop (p - begL V a)).take (q - begL V a - (p - begL V a)) = (X.drop p).take (q - p) := fun p q h1 h2 h3 => by
    rw [cut_of_cut X (by omega), show begL V a + (p - begL V a) = p by omega, show q - begL V a - (p - begL V a) = q - p by omega]
  intro k
  induction k with
  | zero =>
    intro hk
    have hbe := beg_end (S := V) (n := a) (by omega)
    have h1 := line_cut (V := V) (a := a) (b := b) (k := 0) hb (by omega)
    rw [List.drop_zero, Nat.add_zero] at h1
    have hR0 := hR 0 hk
    have hend0 := hR0.le
    rw [Nat.add_zero] at hR0 hend0 ⊢
    generalize (X.drop (begL V a)).take (endL V b - begL V a) = T at *
    have e : chsL 74 0 0 (((linesOf V).drop a).take (b + 1 - a)) = chsL 74 (begL V (a + 1) - begL V a) 1 ((((linesOf V).drop a).take (b + 1 - a)).drop 1) := by
      conv => lhs; rw [h1]
      show chP 74 0 0 (lineL V a) ++ chsL 74 (0 + (lineL V a).length + 1) (0 + 1) _ = _
      rw [lineL_len (by omega), beg_succ]
      have e0 : chP 74 0 0 (lineL V a) = [] := by
        unfold chP
        rw [if_neg (fun h => absurd h.1 (by decide)), if_neg (fun h => absurd h.1 (by decide)), if_neg (fun h => absurd h.2.1 (by decide)), if_neg (fun h => absurd h.2 (by decide))]
      rw [e0, List.nil_append]
      congr 1
      omega
    rw [e, asm_split T (Nat.zero_le (endL V a - begL V a)) (by rw [hTl]; exact hR0), List.drop_zero]
    show _ = (X.drop (begL V a)).take (endL V a - begL V a) ++ _
    have := hcc (begL V a) (endL V a) (Nat.le_refl _) hbe (by omega)
    rw [Nat.sub_self, List.drop_zero, Nat.sub_zero] at this
    rw [Nat.sub_zero, this]
    rfl
  | succ k ih =>
    intro hk
    rw [ih (by omega)]
    have hbe := beg_end (S := V) (n := a + k + 1) (by omega)
    have hF := beg_mono (S := V) (a := a) (b := a + k + 1) (by omega) (by omega)
    have hbs := beg_succ V (a + k)
    have hbe0 := beg_end (S := V) (n := a + k) (by omega)
    have hF0 := beg_mono (S := V) (a := a) (b := a + k) (by omega) (by omega)
    have hR1 := hR (k + 1) hk
    have hend := hR1.le
    rw [show a + (k + 1) = a + k + 1 by omega] at hR1 hend ⊢
    have hlen := lineL_len (V := V) (n := a + k + 1) (by omega)
    have hin := inB_le (lineL V (a + k + 1))
    have hblank := blank_inB (V := V) (n := a + k + 1) (by omega)
    rw [line_cut hb (show a + (k + 1) ≤ b by omega), show a + (k + 1) = a + k + 1 by omega]
    generalize (X.drop (begL V a)).take (endL V b - begL V a) = T at *
    have hat : begL V (a + k + 1) - begL V a + (lineL V (a + k + 1)).length + 1 = begL V (a + k + 1 + 1) - begL V a := by
      rw [hlen, beg_succ V (a + k + 1)]; omega
    show _ ++ asmL g T _ (chP 74 _ (k + 1) (lineL V (a + k + 1)) ++ chsL 74 (_ + (lineL V (a + k + 1)).length + 1) (k + 1 + 1) _) = (joA X c V a k ++ pcJ X c V (a + 1 + k)) ++ _
    rw [hat, List.append_assoc, show a + 1 + k = a + k + 1 by omega]
    congr 1
    generalize chsL 74 (begL V (a + k + 1 + 1) - begL V a) (k + 1 + 1) ((((linesOf V).drop a).take (b + 1 - a)).drop (k + 1 + 1)) = R at *
    have hf : begL V (a + k + 1) - begL V a - 1 = endL V (a + k) - begL V a := by omega
    have hfin : asmL g T (begL V (a + k + 1) - begL V a + inB (lineL V (a + k + 1))) R = (X.drop (blankB V (endL V (a + k + 1)) (begL V (a + k + 1)))).take (endL V (a + k + 1) - blankB V (endL V (a + k + 1)) (begL V (a + k + 1))) ++ asmL g T (endL V (a + k + 1) - begL V a) R := by
      rw [asm_split T (q := endL V (a + k + 1) - begL V a) (by omega) (by rw [hTl]; exact hR1), show begL V (a + k + 1) - begL V a + inB (lineL V (a + k + 1)) = blankB V (endL V (a + k + 1)) (begL V (a + k + 1)) - begL V a by omega, hcc _ _ (by omega) (by omega) (by omega)]
    unfold pcJ chP
    rw [if_neg (fun h => absurd h.1 (by decide)), if_neg (fun h => absurd h.1 (by decide))]
    by_cases hall : inB (lineL V (a + k + 1)) = (lineL V (a + k + 1)).length
    · rw [if_pos ⟨rfl, Nat.succ_pos _, hall⟩, if_neg (by omega)]
      show (T.drop _).take (begL V (a + k + 1) - begL V a - 1 - (endL V (a + k) - begL V a)) ++ g [] ++ asmL g T (begL V (a + k + 1) - begL V a + inB (lineL V (a + k + 1))) R = _
      rw [hf, Nat.sub_self, List.take_zero, h0, hfin]
      rfl
    · rw [if_neg (fun h => hall h.2.2), if_pos ⟨rfl, Nat.succ_pos _⟩, if_pos (by omega)]
      show (T.drop _).take (begL V (a + k + 1) - begL V a - 1 - (endL V (a + k) - begL V a)) ++ g [32] ++ asmL g T (begL V (a + k + 1) - begL V a + inB (lineL V (a + k + 1))) R = _
      rw [hf, Nat.sub_self, List.take_zero, h32, hfin]
      simp only [List.nil_append, List.append_assoc]
end Go.Proofs.YtgpmfkedcoiopaaGreatDoor

/-
  Changes of a labelled text: the document's pile: plain, layer 14.
-/
namespace Go.Proofs.YtgpmfkedcoiopaaGreatDoor
open Go.RowKit

def idB : List UInt8 → List UInt8 := fun x => x
def repB (y : Nat) : List UInt8 → List Nat := fun x => List.replicate x.length y
/-- changes of a labelled text, the last one first; the first error stays -/
def chgT (y : Nat) (S : List UInt8) (l : List RunP) : List ChP → TP × Nat
  | [] => ((S, l), 0)
  | c :: L => if (chgT y S l L).2 = 0 then spliceT (chgT y S l L).1.1 (chgT y S l L).1.2 (c.f : Nat) (c.t : Nat) (makeOf c.put y).1.1 (makeOf c.put y).1.2 else (([], []), (chgT y S l L).2)
theorem good_pack {S : List UInt8} {b : List Nat} (h : S.length ≤ 4096) (hb : b.length = S.length) : goodT S (pack b) = true :=
  (goodT_iff _ _).2 ⟨goodB_pack (by omega), by rw [bytesOf_pack]; exact hb⟩
theorem chgT_is (y : Nat) {S : List UInt8} {b : List Nat} (hS : S.length ≤ 4096) (hb : b.length = S.length) : ∀ (L : List ChP) (p : Nat), OrdC S.length p L → (∀ c ∈ L, c.put.length ≤ 4096) → ((∀ c ∈ L, c.t - c.f ≤ c.put.length) ∨ (chgL idB S L).length ≤ 4096 ∧ ∀ c ∈ L, c.put.length ≤ c.t - c.f) →
    chgT y S (pack b) L = if (chgL idB S L).length ≤ 4096 then ((chgL idB S L, pack (chgL (repB y) b L)), 0) else (([], []), 3)
  | [], _, _, _, _ => (if_pos hS).symm
  | c :: L, p, ho, hp, hg => by
    have hord := ho.2.2
    have hcS := hord.le
    have hft := ho.2.1
    have hpc := hp c (List.mem_cons_self ..)
    have ea := chg_asm (g := idB) S L c.t hord
    have hlen : (chgL idB S L).length ≥ c.t := by rw [ea, List.length_append, List.length_take]; omega
    have hnl : (chgL idB S (c :: L)).length = (chgL idB S L).length - (c.t - c.f) + c.put.length := by
      show ((chgL idB S L).take c.f ++ c.put ++ (chgL idB S L).drop c.t).length = _
      simp only [List.length_append, List.length_take, List.length_drop]
      omega
    have hbl : (chgL (repB y) b L).length = (chgL idB S L).length := asm_len (g := repB y) (g' := idB) (fun x => by simp [repB]) (fun x => rfl) hb L
    have hshr : ∀ L' : List ChP, (∀ d ∈ L', d.put.length ≤ d.t - d.f) → ∀ q, OrdC S.length q L' → (chgL idB S L').length ≤ S.length := by
      intro L'
      induction L' with
      | nil => intro _ _ _; exact Nat.le_refl _
      | cons d L' ih =>
        intro hd q ho'
        have h1 := ih (fun e he => hd e (List.mem_cons_of_mem _ he)) _ ho'.2.2
        have h2 := hd d (List.mem_cons_self ..)
        have ea' := chg_asm (g := idB) S L' d.t ho'.2.2
        have h3 : (chgL idB S L').length ≥ d.t := by rw [ea', List.length_append, List.length_take]; have := ho'.2.2.le; omega
        have h4 := ho'.2.1
        show ((chgL idB S L').take d.f ++ d.put ++ (chgL idB S L').drop d.t).length ≤ _
        simp only [List.length_append, List.length_take, List.length_drop]
        omega
    have ih := chgT_is y hS hb L c.t hord (fun d hd => hp d (List.mem_cons_of_mem _ hd)) (by
      rcases hg with h | h
      · exact .inl fun d hd => h d (List.mem_cons_of_mem _ hd)
      · exact .inr ⟨by have := hshr L (fun d hd => h.2 d (List.mem_cons_of_mem _ hd)) _ hord; omega, fun d hd => h.2 d (List.mem_cons_of_mem _ hd)⟩)
    have hm : makeOf c.put y = ((c.put, pack (repB y c.put)), 0) := if_pos hpc
    show (if (chgT y S (pack b) L).2 = 0 then spliceT (chgT y S (pack b) L).1.1 (chgT y S (pack b) L).1.2 (c.f : Nat) (c.t : Nat) (makeOf c.put y).1.1 (makeOf c.put y).1.2 else (([], []), (chgT y S (pack b) L).2)) = _
    rw [ih, hm]
    by_cases h4 : (chgL idB S L).length ≤ 4096
    · rw [if_pos h4]
      dsimp only
      rw [if_pos rfl]
      have hg1 : goodT (chgL idB S L) (pack (chgL (repB y) b L)) = true := good_pack h4 hbl
      have hg2 : goodT c.put (pack (repB y c.put)) = true := good_pack hpc (by simp [repB])
      have hw := within_nat hg1 hft hlen
      by_cases h5 : (chgL idB S (c :: L)).length ≤ 4096
      · rw [if_pos h5, spliceT_ok hw hg2 (by omega)]
        simp only [bytesOf_pack, Int.toNat_natCast]
        rfl
      · rw [if_neg h5, spliceT_big hw hg2 (by omega)]
    · rw [if_neg h4]
      dsimp only
      rw [if_neg (by decide)]
      rcases hg with h | h
      · have := h c (List.mem_cons_self ..)
        rw [if_neg (by omega)]
      · have h1 := hshr L (fun d hd => h.2 d (List.mem_cons_of_mem _ hd)) _ hord
        omega
theorem chP_put {op : Int} {p n : Nat} {x : List UInt8} {c : ChP} (h : c ∈ chP op p n x) : c.put.length ≤ 1 ∧ (op = 62 → c.t - c.f ≤ c.put.length) ∧ (op ≠ 62 → (op = 74 → 0 < n → 0 < p) → c.put.length ≤ c.t - c.f) := by
  unfold chP at h
  split at h
  · next h1 => rw [List.mem_singleton] at h; subst h; exact ⟨by simp, fun _ => by simp, fun h2 => absurd h1.1 h2⟩
  split at h
  · next h1 => rw [List.mem_singleton] at h; subst h; exact ⟨by simp, fun h2 => by have := h1.1; omega, fun _ _ => by simp⟩
  split at h
  · next h1 => rw [List.mem_singleton] at h; subst h; exact ⟨by simp, fun h2 => by have := h1.1; omega, fun _ _ => by simp⟩
  split at h
  · next h1 => rw [List.mem_singleton] at h; subst h; exact ⟨by simp, fun h2 => by have := h1.1; omega, fun _ h3 => by have := h3 h1.1 h1.2; simp; omega⟩
  · cases h
theorem chsL_put {op : Int} : ∀ (r : List (List UInt8)) (p n : Nat), (0 < n → 0 < p) → ∀ c ∈ chsL op p n r, c.put.length ≤ 1 ∧ (op = 62 → c.t - c.f ≤ c.put.length) ∧ (op ≠ 62 → c.put.length ≤ c.t - c.f)
  | [], _, _, _, c, h => by cases h
  | x :: r, p, n, hn, c, h => by
    rcases List.mem_append.1 (show c ∈ chP op p n x ++ chsL op (p + x.length + 1) (n + 1) r from h) with h | h
    · have := chP_put h
      exact ⟨this.1, this.2.1, fun h2 => this.2.2 h2 fun _ => hn⟩
    · exact chsL_put r _ _ (fun _ => by omega) c h
theorem chsL_app {op : Int} : ∀ (r r' : List (List UInt8)) (p n : Nat), chsL op p n (r ++ r') = chsL op p n r ++ chsL op (p + totL r) (n + r.length) r'
  | [], r', p, n => rfl
  | x :: r, r', p, n => by
    show chP op p n x ++ chsL op (p + x.length + 1) (n + 1) (r ++ r') = (chP op p n x ++ chsL op (p + x.length + 1) (n + 1) r) ++ _
    rw [chsL_app r r', totL_cons, List.append_assoc, List.length_cons, show p + x.length + 1 + totL r = p + (x.length + 1 + totL r) by omega, show n + 1 + r.length = n + (r.length + 1) by omega]
section
variable {S : List UInt8} {l : List RunP} {V : List UInt8} {y : Nat} {a b : Nat}
theorem cut_lens (hg : goodT S l = true) (hV : V.length = S.length) (hab : a ≤ b) (hb : b < countL V) : begL V a ≤ endL V b ∧ endL V b ≤ S.length ∧ ((S.drop (begL V a)).take (endL V b - begL V a)).length = endL V b - begL V a ∧ (((bytesOf l).drop (begL V a)).take (endL V b - begL V a)).length = endL V b - begL V a ∧ endL V b - begL V a ≤ 4096 := by
  have h1 := end_le hb
  have h2 : begL V a ≤ endL V b := Nat.le_trans (beg_mono hab hb) (beg_end hb)
  have h3 := goodT_size hg
  refine ⟨h2, by omega, ?_, ?_, by omega⟩
  · rw [List.length_take, List.length_drop]; omega
  · rw [List.length_take, List.length_drop]; omega
/-- what > and < make of the lines -/
theorem chg_shift (hg : goodT S l = true) (hV : V.length = S.length) {op : Int} (hop : op = 62 ∨ op = 60) (hab : a ≤ b) (hb : b < countL V) :
    chgT y ((S.drop (begL V a)).take (endL V b - begL V a)) (pack (((bytesOf l).drop (begL V a)).take (endL V b - begL V a))) (chsL op 0 0 (linesOf ((V.drop (begL V a)).take (endL V b - begL V a)))) =
      ((pileM (shList S l V y op a b (b + 1 - a))).getD ([], []), if (pileM (shList S l V y op a b (b + 1 - a))).isSome = true then 0 else 3) := by
  obtain ⟨h1, h2, h3, h4, h5⟩ := cut_lens hg hV hab hb
  have h34 : (((bytesOf l).drop (begL V a)).take (endL V b - begL V a)).length = ((S.drop (begL V a)).take (endL V b - begL V a)).length := by omega
  have hbl := (goodT_size hg).2.2
  have htl := tot_lines ((V.drop (begL V a)).take (endL V b - begL V a))
  have hVl : ((V.drop (begL V a)).take (endL V b - begL V a)).length = endL V b - begL V a := by rw [List.length_take, List.length_drop]; omega
  have hord : OrdC ((S.drop (begL V a)).take (endL V b - begL V a)).length 0 (chsL op 0 0 (linesOf ((V.drop (begL V a)).take (endL V b - begL V a)))) := by
    rw [h3]
    exact ord_shift (by rcases hop with rfl | rfl <;> decide) _ _ _ (Nat.zero_le _) (by omega)
  have hput := chsL_put (op := op) (linesOf ((V.drop (begL V a)).take (endL V b - begL V a))) 0 0 (fun h => absurd h (by decide))
  obtain ⟨g1, g2, g3⟩ := shList_is (a := a) hg hV y op hb (b + 1 - a) (by omega)
  have hA := asm_shift (g := idB) (c := (9 : UInt8)) rfl rfl hop hab hb S hV (b + 1 - a) (by omega)
  have hB := asm_shift (g := repB y) (c := y) rfl rfl hop hab hb (bytesOf l) (by omega) (b + 1 - a) (by omega)
  have hnil : (((linesOf V).drop a).take (b + 1 - a)).drop (b + 1 - a) = [] := List.drop_eq_nil_of_le (by rw [List.length_take]; omega)
  have hek : ekV V a b (b + 1 - a) = endL V b := if_neg (by omega)
  rw [hnil, hek] at hA hB
  have eA : chgL idB ((S.drop (begL V a)).take (endL V b - begL V a)) (chsL op 0 0 (linesOf ((V.drop (begL V a)).take (endL V b - begL V a)))) = shA S 9 V op a b (b + 1 - a) := by
    rw [chg_asm _ _ 0 hord, lines_cut hab hb, hA]
    show [] ++ (_ ++ List.drop (endL V b - begL V a) _) = _
    rw [List.drop_eq_nil_of_le (by omega), List.append_nil, List.nil_append]
  have eB : chgL (repB y) (((bytesOf l).drop (begL V a)).take (endL V b - begL V a)) (chsL op 0 0 (linesOf ((V.drop (begL V a)).take (endL V b - begL V a)))) = shA (bytesOf l) y V op a b (b + 1 - a) := by
    rw [chg_asm _ _ 0 (by rw [h34]; exact hord), lines_cut hab hb, hB]
    show [] ++ (_ ++ List.drop (endL V b - begL V a) _) = _
    rw [List.drop_eq_nil_of_le (by omega), List.append_nil, List.nil_append]
  have hL : (chgL idB ((S.drop (begL V a)).take (endL V b - begL V a)) (chsL op 0 0 (linesOf ((V.drop (begL V a)).take (endL V b - begL V a))))).length ≤ 4096 ∨ op = 62 := by
    rcases hop with h | h
    · exact .inr h
    · left
      have key : ∀ (L : List ChP) (q : Nat), OrdC ((S.drop (begL V a)).take (endL V b - begL V a)).length q L → (∀ c ∈ L, c.put.length ≤ c.t - c.f) → (chgL idB ((S.drop (begL V a)).take (endL V b - begL V a)) L).length ≤ ((S.drop (begL V a)).take (endL V b - begL V a)).length := by
        intro L
        induction L with
        | nil => intro _ _ _; exact Nat.le_refl _
        | cons d L' ih =>
          intro q ho' hd
          have h1 := ih _ ho'.2.2 (fun e he => hd e (List.mem_cons_of_mem _ he))
          have h2 := hd d (List.mem_cons_self ..)
          have ea' := chg_asm (g := idB) ((S.drop (begL V a)).take (endL V b - begL V a)) L' d.t ho'.2.2
          have h3 : (chgL idB ((S.drop (begL V a)).take (endL V b - begL V a)) L').length ≥ d.t := by rw [ea', List.length_append, List.length_take]; have := ho'.2.2.le; omega
          have h4 := ho'.2.1
          show ((chgL idB _ L').take d.f ++ d.put ++ (chgL idB _ L').drop d.t).length ≤ _
          simp only [List.length_append, List.length_take, List.length_drop] at *
          omega
      have := key _ 0 hord (fun c hc => (hput c hc).2.2 (by omega))
      omega
  rw [chgT_is y (by omega) (by omega) _ 0 hord (fun c hc => by have := (hput c hc).1; omega) (by
    rcases hop with h | h
    · exact .inl fun c hc => (hput c hc).2.1 h
    · refine .inr ⟨hL.resolve_right (by omega), fun c hc => (hput c hc).2.2 (by omega)⟩), eA, eB]
  unfold pileM
  rw [g1, g2, g3]
  by_cases h : (shA S 9 V op a b (b + 1 - a)).length ≤ 4096
  · rw [if_pos h, if_pos ⟨rfl, h⟩]; rfl
  · rw [if_neg h, if_neg (fun e => h e.2)]; rfl
/-- the last line that J joins -/
theorem join_last (hab : a < b) (hb : b < countL V) : ∃ L, chsL 74 0 0 (linesOf ((V.drop (begL V a)).take (endL V b - begL V a))) =
    L ++ [⟨begL V b - begL V a - 1, begL V b - begL V a + inB (lineL V b), if blankB V (endL V b) (begL V b) < endL V b then [32] else []⟩] := by
  have h1 := line_cut (V := V) (a := a) (b := b) (k := b - a) hb (by omega)
  have hnil : (((linesOf V).drop a).take (b + 1 - a)).drop (b - a + 1) = [] := List.drop_eq_nil_of_le (by rw [List.length_take]; omega)
  rw [hnil, show a + (b - a) = b by omega] at h1
  have h2 := List.take_append_drop (b - a) (((linesOf V).drop a).take (b + 1 - a))
  rw [h1] at h2
  have ht := tot_from (Nat.le_of_lt hab) hb (b - a) (by omega)
  rw [h1, show a + (b - a) = b by omega, ← h2] at ht
  have hadd : ∀ (r r' : List (List UInt8)), totL (r ++ r') = totL r + totL r' := fun r r' => by simp [totL]
  rw [hadd] at ht
  have hln : ((((linesOf V).drop a).take (b + 1 - a)).take (b - a)).length = b - a := by
    have := linesOf_count V
    rw [List.length_take, List.length_take, List.length_drop]; omega
  rw [lines_cut (Nat.le_of_lt hab) hb, ← h2, chsL_app, hln, show 0 + totL ((((linesOf V).drop a).take (b + 1 - a)).take (b - a)) = begL V b - begL V a by omega]
  refine ⟨_, congrArg _ ?_⟩
  show chP 74 (begL V b - begL V a) (0 + (b - a)) (lineL V b) ++ [] = _
  rw [List.append_nil]
  have hin := inB_le (lineL V b)
  have hlen := lineL_len hb
  have hbk := blank_inB hb
  have hbe := beg_end hb
  unfold chP
  rw [if_neg (fun h => absurd h.1 (by decide)), if_neg (fun h => absurd h.1 (by decide))]
  by_cases h : inB (lineL V b) = (lineL V b).length
  · rw [if_pos ⟨rfl, by omega, h⟩, if_neg (by omega)]
  · rw [if_neg (fun e => h e.2.2), if_pos ⟨rfl, by omega⟩, if_pos (by omega)]
/-- what J makes of the lines -/
theorem chg_join (hg : goodT S l = true) (hV : V.length = S.length) (hab : a < b) (hb : b < countL V) :
    ∃ x, pileM (joList S l V y a (b - a)) = some x ∧ chgT y ((S.drop (begL V a)).take (endL V b - begL V a)) (pack (((bytesOf l).drop (begL V a)).take (endL V b - begL V a))) (chsL 74 0 0 (linesOf ((V.drop (begL V a)).take (endL V b - begL V a)))) = (x, 0) ∧
      joAt S l V y a (b - a) + (if blankB V (endL V b) (begL V b) < endL V b then 1 else 0) + (endL V b - blankB V (endL V b) (begL V b)) = begL V a + x.1.length := by
  obtain ⟨h1, h2, h3, h4, h5⟩ := cut_lens hg hV (Nat.le_of_lt hab) hb
  have h34 : (((bytesOf l).drop (begL V a)).take (endL V b - begL V a)).length = ((S.drop (begL V a)).take (endL V b - begL V a)).length := by omega
  have hbl := (goodT_size hg).2.2
  have htl := tot_lines ((V.drop (begL V a)).take (endL V b - begL V a))
  have hVl : ((V.drop (begL V a)).take (endL V b - begL V a)).length = endL V b - begL V a := by rw [List.length_take, List.length_drop]; omega
  obtain ⟨x0, r0, hx0⟩ : ∃ x0 r0, linesOf ((V.drop (begL V a)).take (endL V b - begL V a)) = x0 :: r0 := by
    cases h : linesOf ((V.drop (begL V a)).take (endL V b - begL V a)) with
    | nil => exact absurd h (linesOf_ne _)
    | cons x r => exact ⟨x, r, rfl⟩
  have hord : OrdC ((S.drop (begL V a)).take (endL V b - begL V a)).length 0 (chsL 74 0 0 (linesOf ((V.drop (begL V a)).take (endL V b - begL V a)))) := by
    rw [h3]
    rw [hx0] at htl ⊢
    exact (ord_join0 (by omega)).less (Nat.zero_le _)
  have hput := chsL_put (op := 74) (linesOf ((V.drop (begL V a)).take (endL V b - begL V a))) 0 0 (fun h => absurd h (by decide))
  obtain ⟨g1, g2, g3⟩ := joList_is hg hV y (a := a) (b - a) (by omega)
  have hA := asm_join (g := idB) (c := (32 : UInt8)) rfl rfl (Nat.le_of_lt hab) hb S hV (b - a) (by omega)
  have hB := asm_join (g := repB y) (c := y) rfl rfl (Nat.le_of_lt hab) hb (bytesOf l) (by omega) (b - a) (by omega)
  have hnil : (((linesOf V).drop a).take (b + 1 - a)).drop (b - a + 1) = [] := List.drop_eq_nil_of_le (by rw [List.length_take]; omega)
  rw [hnil, show a + (b - a) = b by omega] at hA hB
  have eA : chgL idB ((S.drop (begL V a)).take (endL V b - begL V a)) (chsL 74 0 0 (linesOf ((V.drop (begL V a)).take (endL V b - begL V a)))) = joA S 32 V a (b - a) := by
    rw [chg_asm _ _ 0 hord, lines_cut (Nat.le_of_lt hab) hb, hA]
    show [] ++ (_ ++ List.drop (endL V b - begL V a) _) = _
    rw [List.drop_eq_nil_of_le (by omega), List.append_nil, List.nil_append]
  have eB : chgL (repB y) (((bytesOf l).drop (begL V a)).take (endL V b - begL V a)) (chsL 74 0 0 (linesOf ((V.drop (begL V a)).take (endL V b - begL V a)))) = joA (bytesOf l) y V a (b - a) := by
    rw [chg_asm _ _ 0 (by rw [h34]; exact hord), lines_cut (Nat.le_of_lt hab) hb, hB]
    show [] ++ (_ ++ List.drop (endL V b - begL V a) _) = _
    rw [List.drop_eq_nil_of_le (by omega), List.append_nil, List.nil_append]
  have hL : (joA S 32 V a (b - a)).length ≤ 4096 := by
    have key : ∀ (L : List ChP) (q : Nat), OrdC ((S.drop (begL V a)).take (endL V b - begL V a)).length q L → (∀ c ∈ L, c.put.length ≤ c.t - c.f) → (chgL idB ((S.drop (begL V a)).take (endL V b - begL V a)) L).length ≤ ((S.drop (begL V a)).take (endL V b - begL V a)).length := by
      intro L
      induction L with
      | nil => intro _ _ _; exact Nat.le_refl _
      | cons d L' ih =>
        intro q ho' hd
        have h1 := ih _ ho'.2.2 (fun e he => hd e (List.mem_cons_of_mem _ he))
        have h2 := hd d (List.mem_cons_self ..)
        have ea' := chg_asm (g := idB) ((S.drop (begL V a)).take (endL V b - begL V a)) L' d.t ho'.2.2
        have h3 : (chgL idB ((S.drop (begL V a)).take (endL V b - begL V a)) L').length ≥ d.t := by rw [ea', List.length_append, List.length_take]; have := ho'.2.2.le; omega
        have h4 := ho'.2.1
        show ((chgL idB _ L').take d.f ++ d.put ++ (chgL idB _ L').drop d.t).length ≤ _
        simp only [List.length_append, List.length_take, List.length_drop] at *
        omega
    have := key _ 0 hord (fun c hc => (hput c hc).2.2 (by decide))
    rw [eA] at this
    omega
  have hp : pileM (joList S l V y a (b - a)) = some (joA S 32 V a (b - a), pack (joA (bytesOf l) y V a (b - a))) := by
    unfold pileM
    rw [g1, g2, g3, if_pos ⟨rfl, hL⟩]
  refine ⟨_, hp, ?_, ?_⟩
  · rw [chgT_is y (by omega) (by omega) _ 0 hord (fun c hc => by have := (hput c hc).1; omega) (.inr ⟨by rw [eA]; exact hL, fun c hc => (hput c hc).2.2 (by decide)⟩), eA, eB, if_pos hL]
  · obtain ⟨k, hk⟩ : ∃ k, b - a = k + 1 := ⟨b - a - 1, by omega⟩
    rw [hk] at hL ⊢
    obtain ⟨g1', g2', g3'⟩ := joList_is hg hV y (a := a) k (by omega)
    have hL' : (joA S 32 V a k).length + ((if blankB V (endL V b) (begL V b) < endL V b then 1 else 0) + (endL V b - blankB V (endL V b) (begL V b))) = (joA S 32 V a (k + 1)).length := by
      show _ = (joA S 32 V a k ++ pcJ S 32 V (a + 1 + k)).length
      rw [show a + 1 + k = b by omega, List.length_append]
      have hbk := blankB_le (V := V) (beg_end hb)
      congr 1
      unfold pcJ
      rw [List.length_append, List.length_take, List.length_drop]
      split
      · simp; omega
      · simp; omega
    have hp' : pileM (joList S l V y a k) = some (joA S 32 V a k, pack (joA (bytesOf l) y V a k)) := by
      unfold pileM
      rw [g1', g2', g3', if_pos ⟨rfl, by omega⟩]
    have hat : joAt S l V y a (k + 1) = begL V a + (joA S 32 V a k).length := by
      show (boundsL V (a : Nat)).1.1 + ((pileM (joList S l V y a k)).getD ([], [])).1.length = _
      rw [boundsL_nat (n := a) (by omega), hp']
      rfl
    rw [hat]
    dsimp only
    omega
end
end Go.Proofs.YtgpmfkedcoiopaaGreatDoor

/-
  Registers as a plain list: layer 9.
-/
import Derived.Test.YtcpijnoabipefaaEdiCopy
import Derived.Test.YtcpijnoabipefaaTouch
import Derived.Deep.MidRow
namespace Go.Proofs.Ytcpijnoabipefaa
open Go.RowKit

/-- a register: is there something; its text, its lines -/
structure RegP where
  full : Bool
  S : List UInt8
  l : List RunP
  lines : Bool
/-- a register in memory -/
structure RegV where
  full : Bool
  S : List UInt8
  A : Option Addr
  l : List RunP
  c : Nat
  lines : Bool
def RegV.reg (r : RegV) : RegP := ⟨r.full, r.S, r.l, r.lines⟩
def RegV.cells (r : RegV) : List Value := [.bool r.full, .string ⟨r.S.toArray⟩, .slice r.A r.l.length r.c, .bool r.lines]
def flatG (Z : List RegV) : List Value := Z.flatMap RegV.cells
theorem regV_len (r : RegV) : r.cells.length = 4 := rfl
theorem flatG_cons (r : RegV) (Z : List RegV) : flatG (r :: Z) = r.cells ++ flatG Z := by simp [flatG]
theorem flatG_app (Y Z : List RegV) : flatG (Y ++ Z) = flatG Y ++ flatG Z := by simp [flatG]
theorem flatG_len : ∀ Z : List RegV, (flatG Z).length = Z.length * 4
  | [] => rfl
  | r :: Z => by rw [flatG_cons, List.length_append, flatG_len Z, regV_len, List.length_cons]; omega
theorem flatG_cell (Z : List RegV) : ∀ u ∈ flatG Z, u.oneCell' = true := by
  intro u hu
  unfold flatG at hu
  obtain ⟨r, _, hr⟩ := List.mem_flatMap.1 hu
  simp [RegV.cells] at hr
  rcases hr with rfl | rfl | rfl | rfl <;> rfl
theorem flatG_get {Z : List RegV} {i : Nat} {r : RegV} (h : Z[i]? = some r) (j : Nat) (hj : j < 4) : (flatG Z)[i * 4 + j]? = r.cells[j]? := by
  induction Z generalizing i with
  | nil => simp at h
  | cons a Z ih =>
    rw [flatG_cons]
    cases i with
    | zero =>
      simp at h
      subst h
      rw [List.getElem?_append_left (by rw [regV_len]; omega)]
      simp
    | succ i =>
      rw [List.getElem?_append_right (by rw [regV_len]; omega), regV_len]
      have := ih (i := i) (by simpa using h)
      rw [← this]
      congr 1
      omega
theorem flatG_take (Z : List RegV) (n : Nat) : (flatG Z).take (n * 4) = flatG (Z.take n) := by
  induction Z generalizing n with
  | nil => simp [flatG]
  | cons a Z ih =>
    cases n with
    | zero => simp [flatG]
    | succ n =>
      rw [List.take_succ_cons, flatG_cons, flatG_cons, ← ih n, List.take_append, regV_len, List.take_of_length_le (by rw [regV_len]; omega)]
      congr 2
      omega
theorem flatG_drop (Z : List RegV) (n : Nat) : (flatG Z).drop (n * 4) = flatG (Z.drop n) := by
  induction Z generalizing n with
  | nil => simp [flatG]
  | cons a Z ih =>
    cases n with
    | zero => simp
    | succ n =>
      rw [List.drop_succ_cons, flatG_cons, ← ih n, List.drop_append, regV_len, List.drop_of_length_le (by rw [regV_len]; omega), List.nil_append]
      congr 1
      omega
/-- the cells of registers that lie side by side are others -/
theorem flatG_splice (Z Y : List RegV) (i : Nat) (_h : i + Y.length ≤ Z.length) : splice (.bool true :: flatG Z) (1 + i * 4) (flatG Y) = .bool true :: flatG (Z.take i ++ Y ++ Z.drop (i + Y.length)) := by
  unfold splice
  rw [flatG_len, show 1 + i * 4 = i * 4 + 1 by omega, List.take_succ_cons, flatG_take, show i * 4 + 1 + Y.length * 4 = (i + Y.length) * 4 + 1 by omega, List.drop_succ_cons, flatG_drop, flatG_app, flatG_app]
  simp
theorem set_take {α : Type} (Z : List α) (i : Nat) (x : α) (h : i < Z.length) : Z.take i ++ [x] ++ Z.drop (i + 1) = Z.set i x := by
  rw [List.set_eq_take_append_cons_drop, if_pos h, List.append_assoc, List.singleton_append]
theorem flatG_set (Z : List RegV) (i : Nat) (r : RegV) (h : i < Z.length) : splice (.bool true :: flatG Z) (1 + i * 4) r.cells = .bool true :: flatG (Z.set i r) := by
  have := flatG_splice Z [r] i (by simp; omega)
  rw [show flatG [r] = r.cells by simp [flatG]] at this
  rw [this, ← set_take Z i r h]
  rfl
/-- wide deletions shift the numbered ones -/
def shiftZ {α : Type} (Z : List α) : List α := Z.take 28 ++ (Z.drop 27).take 8 ++ Z.drop 36
theorem shiftZ_map {α β : Type} (f : α → β) (Z : List α) : shiftZ (Z.map f) = (shiftZ Z).map f := by simp [shiftZ, List.map_take, List.map_drop]
theorem shiftZ_len {α : Type} {Z : List α} (h : Z.length = 38) : (shiftZ Z).length = 38 := by simp [shiftZ]; omega
theorem shiftZ_mem {α : Type} {Z : List α} {z : α} (h : z ∈ shiftZ Z) : z ∈ Z := by
  unfold shiftZ at h
  rcases List.mem_append.1 h with h | h
  · rcases List.mem_append.1 h with h | h
    · exact List.mem_of_mem_take h
    · exact List.mem_of_mem_drop (List.mem_of_mem_take h)
  · exact List.mem_of_mem_drop h
theorem flatG_shift (Z : List RegV) (h : Z.length = 38) : splice (.bool true :: flatG Z) 113 (flatG ((Z.drop 27).take 8)) = .bool true :: flatG (shiftZ Z) := by
  have e : ((Z.drop 27).take 8).length = 8 := by simp; omega
  have := flatG_splice Z ((Z.drop 27).take 8) 28 (by omega)
  rw [show 1 + 28 * 4 = 113 from rfl, e] at this
  exact this

/-! Names and places. -/
def unN (n : Int) : Bool := decide (n = 0 ∨ n = 34)
def capN (n : Int) : Bool := decide (65 ≤ n ∧ n ≤ 90)
def letN (n : Int) : Bool := decide ((97 ≤ n ∧ n ≤ 122) ∨ (65 ≤ n ∧ n ≤ 90))
def plN (n : Int) : Int :=
  if unN n = true then 37 else if capN n = true then n - 65 else if letN n = true then n - 97 else if 48 ≤ n ∧ n ≤ 57 then 26 + (n - 48) else if n = 45 then 36 else -1
theorem plN_cases (n : Int) : (unN n = true ∧ plN n = 37) ∨ ((65 ≤ n ∧ n ≤ 90) ∧ plN n = n - 65) ∨ ((97 ≤ n ∧ n ≤ 122) ∧ plN n = n - 97) ∨ ((48 ≤ n ∧ n ≤ 57) ∧ plN n = 26 + (n - 48)) ∨ (n = 45 ∧ plN n = 36) ∨ plN n = -1 := by
  unfold plN
  by_cases h0 : unN n = true
  · exact .inl ⟨h0, if_pos h0⟩
  · rw [if_neg h0]
    by_cases h1 : capN n = true
    · rw [if_pos h1]
      exact .inr (.inl ⟨of_decide_eq_true h1, rfl⟩)
    · rw [if_neg h1]
      by_cases h2 : letN n = true
      · rw [if_pos h2]
        rcases of_decide_eq_true h2 with h | h
        · exact .inr (.inr (.inl ⟨h, rfl⟩))
        · exact absurd (decide_eq_true h) h1
      · rw [if_neg h2]
        by_cases h3 : 48 ≤ n ∧ n ≤ 57
        · rw [if_pos h3]
          exact .inr (.inr (.inr (.inl ⟨h3, rfl⟩)))
        · rw [if_neg h3]
          by_cases h4 : n = 45
          · rw [if_pos h4]
            exact .inr (.inr (.inr (.inr (.inl ⟨h4, rfl⟩))))
          · rw [if_neg h4]
            exact .inr (.inr (.inr (.inr (.inr rfl))))
theorem plN_range (n : Int) : plN n = -1 ∨ (0 ≤ plN n ∧ plN n ≤ 37) := by
  rcases plN_cases n with ⟨_, h⟩ | ⟨_, h⟩ | ⟨_, h⟩ | ⟨_, h⟩ | ⟨_, h⟩ | h <;> omega
theorem plN_let {n : Int} (h : letN n = true) : 0 ≤ plN n ∧ plN n ≤ 25 := by
  have h' := of_decide_eq_true h
  have h0 : ¬ unN n = true := fun e => by have := of_decide_eq_true e; omega
  unfold plN
  rw [if_neg h0]
  by_cases h1 : capN n = true
  · rw [if_pos h1]
    have := of_decide_eq_true h1
    omega
  · rw [if_neg h1, if_pos h]
    have h2 : ¬ (65 ≤ n ∧ n ≤ 90) := fun e => h1 (decide_eq_true e)
    omega

/-! What calls do. -/
def zeroR : RegP := ⟨false, [], [], false⟩
def newR : List RegP := List.replicate 38 zeroR
def atR (R : List RegP) (i : Nat) : RegP := (R[i]?).getD zeroR
def checkR (n : Int) (S : List UInt8) (l : List RunP) : Nat := if (unN n = true ∨ letN n = true ∨ n = 95) ∧ goodT S l = true then 0 else 2
def put2 (R : List RegP) (i j : Nat) (x : RegP) : List RegP := (R.set i x).set j x
def letterR (R : List RegP) (n : Int) (S : List UInt8) (l : List RunP) (b : Bool) : List RegP × Nat :=
  if capN n = true then
    (if (catT (atR R (plN n).toNat).S (atR R (plN n).toNat).l S l).2 = 0
      then (put2 R (plN n).toNat 37 ⟨true, (catT (atR R (plN n).toNat).S (atR R (plN n).toNat).l S l).1.1, (catT (atR R (plN n).toNat).S (atR R (plN n).toNat).l S l).1.2, (atR R (plN n).toNat).lines || b⟩, 0)
      else (R, (catT (atR R (plN n).toNat).S (atR R (plN n).toNat).l S l).2))
  else (put2 R (plN n).toNat 37 ⟨true, S, l, b⟩, 0)
def yankR (R : List RegP) (n : Int) (S : List UInt8) (l : List RunP) (b : Bool) : List RegP × Nat :=
  if checkR n S l = 0 then (if letN n = true then letterR R n S l b else if n = 95 then (R, 0) else (put2 R 26 37 ⟨true, S, l, b⟩, 0)) else (R, 2)
def deleteR (R : List RegP) (n : Int) (S : List UInt8) (l : List RunP) (b wide : Bool) : List RegP × Nat :=
  if unN n = false then yankR R n S l b
  else if checkR n S l = 0 then (if wide = false ∧ b = false then (put2 R 36 37 ⟨true, S, l, b⟩, 0) else (put2 (shiftZ R) 27 37 ⟨true, S, l, b⟩, 0)) else (R, 2)
/-- a register may be held as a text -/
def RegP.ok (r : RegP) : Prop := goodT r.S r.l = true ∧ Fits r.l ∧ (r.full = false → r = zeroR)
/-- registers that calls made -/
structure OkRs (R : List RegP) : Prop where
  len : R.length = 38
  ok : ∀ r ∈ R, r.ok
theorem atR_lt {R : List RegP} {i : Nat} (h : i < R.length) : R[i]? = some (atR R i) := by unfold atR; rw [List.getElem?_eq_getElem h]; rfl
theorem atR_ok {R : List RegP} (h : OkRs R) {i : Nat} (hi : i < 38) : (atR R i).ok := h.ok _ (List.mem_of_getElem? (atR_lt (by rw [h.len]; exact hi)))
theorem zeroR_ok : zeroR.ok := ⟨by decide, fun r hr => by simp [zeroR] at hr, fun _ => rfl⟩
theorem okRs_new : OkRs newR := ⟨by simp [newR], fun r hr => by rw [(List.mem_replicate.1 hr).2]; exact zeroR_ok⟩
theorem okRs_put {R : List RegP} (h : OkRs R) (i j : Nat) {x : RegP} (hx : x.ok) : OkRs (put2 R i j x) where
  len := by simp [put2, h.len]
  ok := fun r hr => by
    unfold put2 at hr
    rcases List.mem_or_eq_of_mem_set hr with hr | rfl
    · rcases List.mem_or_eq_of_mem_set hr with hr | rfl
      · exact h.ok r hr
      · exact hx
    · exact hx
theorem okRs_shift {R : List RegP} (h : OkRs R) : OkRs (shiftZ R) := ⟨shiftZ_len h.len, fun r hr => h.ok r (shiftZ_mem hr)⟩
theorem checkR_good {n : Int} {S : List UInt8} {l : List RunP} (h : checkR n S l = 0) : (unN n = true ∨ letN n = true ∨ n = 95) ∧ goodT S l = true := by
  unfold checkR at h
  split at h
  · assumption
  · simp at h
theorem catT_good {S X : List UInt8} {l m : List RunP} (h : (catT S l X m).2 = 0) : goodT (catT S l X m).1.1 (catT S l X m).1.2 = true := by
  unfold catT at h ⊢
  split at h
  · next hg =>
    rw [if_pos hg]
    unfold spliceT at h ⊢
    split at h
    · next hw =>
      rw [if_pos hw]
      split at h
      · next hb =>
        rw [if_pos hb]
        obtain ⟨g0, h0, h1, h2⟩ := withinT_of hw.1
        obtain ⟨g1, g2, g3⟩ := goodT_size g0
        obtain ⟨k1, k2, k3⟩ := goodT_size hw.2
        dsimp only
        refine (goodT_iff _ _).2 ⟨goodB_pack ?_, ?_⟩
        · simp only [List.length_append, List.length_take, List.length_drop]; omega
        · rw [bytesOf_pack]; simp only [List.length_append, List.length_take, List.length_drop]; omega
      · simp at h
    · simp at h
  · simp at h
theorem letterR_ok {R : List RegP} (h : OkRs R) (n : Int) {S : List UInt8} {l : List RunP} (b : Bool) (hg : goodT S l = true) (hf : Fits l) (hn : letN n = true) : OkRs (letterR R n S l b).1 := by
  have hp := plN_let hn
  have ho := atR_ok h (i := (plN n).toNat) (by omega)
  unfold letterR
  split
  · split
    · next e => exact okRs_put h _ _ ⟨catT_good e, (okT_cat ho.2.1 hf).2.1, fun e => by simp at e⟩
    · exact h
  · exact okRs_put h _ _ ⟨hg, hf, fun e => by simp at e⟩
theorem yankR_ok {R : List RegP} (h : OkRs R) (n : Int) {S : List UInt8} {l : List RunP} (b : Bool) (hf : Fits l) : OkRs (yankR R n S l b).1 := by
  unfold yankR
  split
  · next e =>
    have hg := (checkR_good e).2
    split
    · next hn => exact letterR_ok h n b hg hf hn
    · split
      · exact h
      · exact okRs_put h _ _ ⟨hg, hf, fun e => by simp at e⟩
  · exact h
theorem deleteR_ok {R : List RegP} (h : OkRs R) (n : Int) {S : List UInt8} {l : List RunP} (b wide : Bool) (hf : Fits l) : OkRs (deleteR R n S l b wide).1 := by
  unfold deleteR
  split
  · exact yankR_ok h n b hf
  · split
    · next e =>
      have hg := (checkR_good e).2
      split
      · exact okRs_put h _ _ ⟨hg, hf, fun e => by simp at e⟩
      · exact okRs_put (okRs_shift h) _ _ ⟨hg, hf, fun e => by simp at e⟩
    · exact h
end Go.Proofs.Ytcpijnoabipefaa

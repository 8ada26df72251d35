/-
  Each command is told by its keys: layer 11, as plain lists.
-/
import Derived.Test.YtnkhlallnblfmaaGrMath
namespace Go.Proofs.Ytnkhlallnblfmaa

def digitsG (n : Int) : List Int := (if 100 ≤ n then [48 + n / 100 % 10] else []) ++ (if 10 ≤ n then [48 + n / 10 % 10] else []) ++ (if 1 ≤ n then [48 + n % 10] else [])
def preG (r n : Int) : List Int := (if r ≠ 0 then [34, r] else []) ++ digitsG n
def tellG (c : CmdG) : List Int :=
  preG c.reg c.count ++ [c.verb] ++ (if c.verb = 103 then [103] else []) ++ (if c.move ≠ 0 then [c.move] else []) ++ (if c.move = 103 then [103] else []) ++ (if c.arg ≠ 0 then [c.arg] else [])
def regG (r : Int) : Prop := r = 0 ∨ nameG r = true
def baseG (r : Int) : StG := if r ≠ 0 then .verb ⟨r, 0, 0, 0, 0⟩ else .start
def afterG (r n : Int) : StG := if 0 < n then .digits ⟨r, n, 0, 0, 0⟩ else baseG r
theorem nameG_ne {r : Int} (h : nameG r = true) : r ≠ 0 := by have := of_decide_eq_true h; omega
theorem run_reg {v : Bool} {r : Int} (hr : regG r) (l : List Int) : runG v .start ((if r ≠ 0 then [34, r] else []) ++ l) 0 = runG v (baseG r) l (if r ≠ 0 then [34, r] else ([] : List Int)).length := by
  unfold baseG
  rcases hr with rfl | h
  · rfl
  · have h0 := nameG_ne h
    rw [if_pos h0, if_pos h0]
    have s1 : stepG v .start 34 = .go .name := rfl
    have s2 : stepG v .name r = .go (.verb ⟨r, 0, 0, 0, 0⟩) := by
      show (if nameG r = true then _ else _) = _
      rw [if_pos h]
      rfl
    rw [List.cons_append, List.cons_append, List.nil_append, runG_go s1, runG_go s2]
    rfl
theorem step_first {v : Bool} {r k : Int} (hk : digit1 k) : stepG v (baseG r) k = .go (.digits ⟨r, k - 48, 0, 0, 0⟩) := by
  have h34 : k ≠ 34 := by unfold digit1 at hk; omega
  unfold baseG
  by_cases h : r ≠ 0
  · rw [if_pos h]
    show (if digit1 k then _ else _) = _
    rw [if_pos hk]
  · rw [if_neg h]
    show (if k = 34 then _ else if digit1 k then _ else _) = _
    rw [if_neg h34, if_pos hk]
    have : r = 0 := by omega
    subst this
    rfl
theorem step_digit {v : Bool} {r n k : Int} (hk : digit0 k) : stepG v (.digits ⟨r, n, 0, 0, 0⟩) k = .go (.digits ⟨r, min (n * 10 + (k - 48)) 999, 0, 0, 0⟩) := by
  show (if digit0 k then _ else _) = _
  rw [if_pos hk]
theorem run_digits {v : Bool} {r n : Int} (hn : 0 ≤ n ∧ n ≤ 999) (l : List Int) (m : Nat) : runG v (baseG r) (digitsG n ++ l) m = runG v (afterG r n) l (m + (digitsG n).length) := by
  unfold afterG digitsG
  by_cases h1 : 100 ≤ n
  · have q1 : digit1 (48 + n / 100 % 10) := by unfold digit1; omega
    have q2 : digit0 (48 + n / 10 % 10) := by unfold digit0; omega
    have q3 : digit0 (48 + n % 10) := by unfold digit0; omega
    rw [if_pos h1, if_pos (show 10 ≤ n by omega), if_pos (show 1 ≤ n by omega), if_pos (show 0 < n by omega)]
    simp only [List.cons_append, List.nil_append]
    rw [runG_go (step_first q1), runG_go (step_digit q2), runG_go (step_digit q3)]
    have e : min (min ((48 + n / 100 % 10 - 48) * 10 + (48 + n / 10 % 10 - 48)) 999 * 10 + (48 + n % 10 - 48)) 999 = n := by omega
    rw [e]
    rfl
  · by_cases h2 : 10 ≤ n
    · have q2 : digit1 (48 + n / 10 % 10) := by unfold digit1; omega
      have q3 : digit0 (48 + n % 10) := by unfold digit0; omega
      rw [if_neg h1, if_pos h2, if_pos (show 1 ≤ n by omega), if_pos (show 0 < n by omega)]
      simp only [List.cons_append, List.nil_append]
      rw [runG_go (step_first q2), runG_go (step_digit q3)]
      have e : min ((48 + n / 10 % 10 - 48) * 10 + (48 + n % 10 - 48)) 999 = n := by omega
      rw [e]
      rfl
    · by_cases h3 : 1 ≤ n
      · have q3 : digit1 (48 + n % 10) := by unfold digit1; omega
        rw [if_neg h1, if_neg h2, if_pos h3, if_pos (show 0 < n by omega)]
        simp only [List.cons_append, List.nil_append]
        rw [runG_go (step_first q3)]
        have e : 48 + n % 10 - 48 = n := by omega
        rw [e]
        rfl
      · rw [if_neg h1, if_neg h2, if_neg h3, if_neg (show ¬ 0 < n by omega)]
        rfl
/-- behind register and count -/
theorem run_pre {v : Bool} {r n : Int} (hr : regG r) (hn : 0 ≤ n ∧ n ≤ 999) (l : List Int) : runG v .start (preG r n ++ l) 0 = runG v (afterG r n) l (preG r n).length := by
  unfold preG
  rw [List.append_assoc, run_reg hr, run_digits hn, List.length_append]
theorem step_verb {v : Bool} {r n k : Int} (hk : vkG v k ≠ .none_) (h0 : 0 < n → k ≠ 48) (hn : 0 ≤ n) : stepG v (afterG r n) k = verbG v ⟨r, n, 0, 0, 0⟩ k := by
  obtain ⟨h1, h34⟩ := vk_digit hk
  unfold afterG baseG
  by_cases hp : 0 < n
  · rw [if_pos hp]
    have hd : ¬ digit0 k := by unfold digit0; unfold digit1 at h1; have := h0 hp; omega
    show (if digit0 k then _ else _) = _
    rw [if_neg hd]
  · have : n = 0 := by omega
    subst this
    rw [if_neg hp]
    by_cases hr : r ≠ 0
    · rw [if_pos hr]
      show (if digit1 k then _ else _) = _
      rw [if_neg h1]
    · rw [if_neg hr]
      show (if k = 34 then _ else if digit1 k then _ else _) = _
      rw [if_neg h34, if_neg h1]
      have : r = 0 := by omega
      subst this
      rfl

/-- a command's register, count and verb -/
structure HeadG (r n k : Int) : Prop where
  reg : regG r
  count : 0 ≤ n ∧ n ≤ 999
  zero : 0 < n → k ≠ 48
/-- a whole command -/
def OkC (v : Bool) (c : CmdG) : Prop := ∃ r n k, HeadG r n k ∧
  ((vkG v k = .alone ∧ c = ⟨r, n, k, 0, 0⟩) ∨ (∃ q a, vkG v k = .wait q ∧ fitsG q a = true ∧ c = ⟨r, n, k, 0, argG q a⟩) ∨
   (vkG v k = .oper ∧ ∃ m, mkG k m = .alone ∧ c = ⟨r, n, k, m, 0⟩) ∨ (vkG v k = .oper ∧ ∃ m q a, mkG k m = .wait q ∧ fitsG q a = true ∧ c = ⟨r, n, k, m, argG q a⟩))
def InvG (v : Bool) : StG → Prop
  | .start => True
  | .name => True
  | .verb c => ∃ r, nameG r = true ∧ c = ⟨r, 0, 0, 0, 0⟩
  | .digits c => ∃ r n, regG r ∧ 1 ≤ n ∧ n ≤ 999 ∧ c = ⟨r, n, 0, 0, 0⟩
  | .second q c => ∃ r n k, HeadG r n k ∧ ((vkG v k = .wait q ∧ c = ⟨r, n, k, 0, 0⟩) ∨ (vkG v k = .oper ∧ ∃ m, mkG k m = .wait q ∧ c = ⟨r, n, k, m, 0⟩))
  | .oper c => ∃ r n k, HeadG r n k ∧ vkG v k = .oper ∧ c = ⟨r, n, k, 0, 0⟩
  | .more c j => (∃ r n k, HeadG r n k ∧ vkG v k = .oper ∧ c = ⟨r, n, k, 0, 0⟩) ∧ 1 ≤ j ∧ j ≤ 999
/-- what a step leaves -/
def LeftG (v : Bool) (o : OutG) : Prop := match o with | .go t => InvG v t | .done c => OkC v c | .bad => True
theorem left_verb {v : Bool} {r n k : Int} (h : HeadG r n k) : LeftG v (verbG v ⟨r, n, 0, 0, 0⟩ k) := by
  unfold verbG
  rcases hq : vkG v k with _ | q | _ | _
  · exact ⟨r, n, k, h, .inl ⟨hq, rfl⟩⟩
  · exact ⟨r, n, k, h, .inl ⟨hq, rfl⟩⟩
  · exact ⟨r, n, k, h, hq, rfl⟩
  · trivial
theorem left_move {v : Bool} {r n k m : Int} (h : HeadG r n k) (hk : vkG v k = .oper) : LeftG v (moveG ⟨r, n, k, 0, 0⟩ m) := by
  unfold moveG
  rcases hq : mkG k m with _ | q | _ | _
  · exact ⟨r, n, k, h, .inr (.inr (.inl ⟨hk, m, hq, rfl⟩))⟩
  · exact ⟨r, n, k, h, .inr ⟨hk, m, hq, rfl⟩⟩
  · exact (mk_oper hq).elim
  · trivial
theorem times_range {a b : Int} (ha : 0 ≤ a ∧ a ≤ 999) (hb : 1 ≤ b ∧ b ≤ 999) : 0 ≤ timesG a b ∧ timesG a b ≤ 999 := by
  unfold timesG
  split
  · omega
  · have : 0 ≤ a * b := Int.mul_nonneg ha.1 (by omega)
    omega
theorem inv_step {v : Bool} {s : StG} (hs : InvG v s) (k : Int) : LeftG v (stepG v s k) := by
  cases s with
  | start =>
    show LeftG v (if k = 34 then _ else if digit1 k then _ else _)
    split
    · trivial
    · split
      · next h => unfold digit1 at h; exact ⟨0, k - 48, .inl rfl, by omega, by omega, rfl⟩
      · exact left_verb ⟨.inl rfl, by omega, fun h => by omega⟩
  | name =>
    show LeftG v (if nameG k = true then _ else _)
    split
    · next h => exact ⟨k, h, rfl⟩
    · trivial
  | verb c =>
    obtain ⟨r, hr, rfl⟩ := hs
    show LeftG v (if digit1 k then _ else _)
    split
    · next h => unfold digit1 at h; exact ⟨r, k - 48, .inr hr, by omega, by omega, rfl⟩
    · exact left_verb ⟨.inr hr, by omega, fun h => by omega⟩
  | digits c =>
    obtain ⟨r, n, hr, h1, h2, rfl⟩ := hs
    show LeftG v (if digit0 k then _ else _)
    split
    · next h => unfold digit0 at h; exact ⟨r, min (n * 10 + (k - 48)) 999, hr, by omega, by omega, rfl⟩
    · next h => exact left_verb ⟨hr, by omega, fun _ e => h (by unfold digit0; omega)⟩
  | second q c =>
    obtain ⟨r, n, a, hh, h | ⟨ho, m, hm, rfl⟩⟩ := hs
    · obtain ⟨hv, rfl⟩ := h
      show LeftG v (if fitsG q k = true then _ else _)
      split
      · next hf => exact ⟨r, n, a, hh, .inr (.inl ⟨q, k, hv, hf, rfl⟩)⟩
      · trivial
    · show LeftG v (if fitsG q k = true then _ else _)
      split
      · next hf => exact ⟨r, n, a, hh, .inr (.inr (.inr ⟨ho, m, q, k, hm, hf, rfl⟩))⟩
      · trivial
  | oper c =>
    obtain ⟨r, n, a, hh, ho, rfl⟩ := hs
    show LeftG v (if digit1 k then _ else _)
    split
    · next h => unfold digit1 at h; exact ⟨⟨r, n, a, hh, ho, rfl⟩, by omega, by omega⟩
    · exact left_move hh ho
  | more c j =>
    obtain ⟨⟨r, n, a, hh, ho, rfl⟩, j1, j2⟩ := hs
    show LeftG v (if digit0 k then _ else _)
    split
    · next h => unfold digit0 at h; exact ⟨⟨r, n, a, hh, ho, rfl⟩, by omega, by omega⟩
    · have hd := (oper_not (vk_oper ho).2).2.2
      exact left_move (n := timesG n j) ⟨hh.reg, times_range hh.count ⟨j1, j2⟩, fun _ (e : a = 48) => hd (by rw [e]; decide)⟩ ho
theorem run_ok {v : Bool} : ∀ (l : List Int) (s : StG) (n : Nat), InvG v s → (runG v s l n).2.2 = 1 → OkC v (runG v s l n).1
  | [], _, _, _, h => by cases h
  | k :: l, s, n, hs, h => by
    have hl := inv_step hs k
    rcases hq : stepG v s k with t | c | _
    · rw [hq] at hl
      rw [runG_go hq] at h ⊢
      exact run_ok l t (n + 1) hl h
    · rw [hq] at hl
      rw [runG_done hq]
      exact hl
    · rw [runG_bad hq] at h; cases h
/-- a command's keys tell it -/
theorem told_ok {v : Bool} {c : CmdG} (h : OkC v c) : parseG (tellG c) v = (c, (tellG c).length, 1) := by
  obtain ⟨r, n, k, hh, h⟩ := h
  unfold parseG tellG
  rcases h with ⟨hv, rfl⟩ | ⟨q, a, hv, hf, rfl⟩ | ⟨hv, m, hm, rfl⟩ | ⟨hv, m, q, a, hm, hf, rfl⟩
  · have h103 := vk_alone hv
    have hs := step_verb (r := r) (by rw [hv]; decide) hh.zero hh.count.1
    simp only [if_neg h103, ne_eq, not_true_eq_false, if_false, List.append_nil, show ¬ ((0 : Int) = 103) by decide]
    rw [run_pre hh.reg hh.count, runG_done (c := ⟨r, n, k, 0, 0⟩) (by rw [hs]; unfold verbG; rw [hv]; rfl)]
    simp
  · have hs := step_verb (r := r) (show vkG v k ≠ .none_ by rw [hv]; exact fun e => by cases e) hh.zero hh.count.1
    have hg := vk_wait hv
    obtain ⟨f1, f2⟩ := fits_arg hf
    have hs2 : stepG v (.second q ⟨r, n, k, 0, 0⟩) a = .done ⟨r, n, k, 0, argG q a⟩ := by
      show (if fitsG q a = true then _ else _) = _
      rw [if_pos hf]
    have hs1 : stepG v (afterG r n) k = .go (.second q ⟨r, n, k, 0, 0⟩) := by rw [hs]; unfold verbG; rw [hv]; rfl
    by_cases hqg : q = .g
    · obtain ⟨ha, ha0⟩ := f1 hqg
      have hk := hg.1 hqg
      rw [ha0] at hs2 ⊢
      subst ha
      simp only [if_pos hk, ne_eq, not_true_eq_false, if_false, List.append_nil, List.append_assoc, show ¬ ((0 : Int) = 103) by decide]
      rw [run_pre hh.reg hh.count]
      simp only [List.cons_append, List.nil_append]
      rw [runG_go hs1, runG_done hs2]
      simp
    · obtain ⟨ha, ha0⟩ := f2 hqg
      have hk : ¬ k = 103 := fun e => hqg (hg.2 e)
      rw [ha] at hs2 ⊢
      simp only [if_neg hk, ne_eq, not_true_eq_false, if_false, List.append_nil, List.append_assoc, show ¬ ((0 : Int) = 103) by decide, ha0, not_false_eq_true, if_true]
      rw [run_pre hh.reg hh.count]
      simp only [List.cons_append, List.nil_append]
      rw [runG_go hs1, runG_done hs2]
      simp
  · have hs := step_verb (r := r) (show vkG v k ≠ .none_ by rw [hv]; exact fun e => by cases e) hh.zero hh.count.1
    have ho := (vk_oper hv).2
    have hk := (oper_not ho).1
    have hm1 := mk_alone hm
    have hm0 := mk_zero ho (show mkG k m ≠ .none_ by rw [hm]; exact fun e => by cases e)
    have hmd := mk_digit ho (show mkG k m ≠ .none_ by rw [hm]; exact fun e => by cases e)
    have hs1 : stepG v (afterG r n) k = .go (.oper ⟨r, n, k, 0, 0⟩) := by rw [hs]; unfold verbG; rw [hv]; rfl
    have hs2 : stepG v (.oper ⟨r, n, k, 0, 0⟩) m = .done ⟨r, n, k, m, 0⟩ := by
      show (if digit1 m then _ else _) = _
      rw [if_neg hmd]
      unfold moveG
      rw [hm]
      rfl
    simp only [if_neg hk, if_neg hm1, ne_eq, hm0, not_false_eq_true, if_true, not_true_eq_false, if_false, List.append_nil, List.append_assoc]
    rw [run_pre hh.reg hh.count]
    simp only [List.cons_append, List.nil_append]
    rw [runG_go hs1, runG_done hs2]
    simp
  · have hs := step_verb (r := r) (show vkG v k ≠ .none_ by rw [hv]; exact fun e => by cases e) hh.zero hh.count.1
    have ho := (vk_oper hv).2
    have hk := (oper_not ho).1
    have hg := mk_wait hm
    have hm0 := mk_zero ho (show mkG k m ≠ .none_ by rw [hm]; exact fun e => by cases e)
    have hmd := mk_digit ho (show mkG k m ≠ .none_ by rw [hm]; exact fun e => by cases e)
    obtain ⟨f1, f2⟩ := fits_arg hf
    have hs1 : stepG v (afterG r n) k = .go (.oper ⟨r, n, k, 0, 0⟩) := by rw [hs]; unfold verbG; rw [hv]; rfl
    have hs2 : stepG v (.oper ⟨r, n, k, 0, 0⟩) m = .go (.second q ⟨r, n, k, m, 0⟩) := by
      show (if digit1 m then _ else _) = _
      rw [if_neg hmd]
      unfold moveG
      rw [hm]
      rfl
    have hs3 : stepG v (.second q ⟨r, n, k, m, 0⟩) a = .done ⟨r, n, k, m, argG q a⟩ := by
      show (if fitsG q a = true then _ else _) = _
      rw [if_pos hf]
    by_cases hqg : q = .g
    · obtain ⟨ha, ha0⟩ := f1 hqg
      have hmm := hg.1 hqg
      rw [ha0] at hs3 ⊢
      subst ha
      simp only [if_neg hk, if_pos hmm, ne_eq, hm0, not_false_eq_true, if_true, not_true_eq_false, if_false, List.append_nil, List.append_assoc]
      rw [run_pre hh.reg hh.count]
      simp only [List.cons_append, List.nil_append]
      rw [runG_go hs1, runG_go hs2, runG_done hs3]
      simp
    · obtain ⟨ha, ha0⟩ := f2 hqg
      have hmm : ¬ m = 103 := fun e => hqg (hg.2 e)
      rw [ha] at hs3 ⊢
      simp only [if_neg hk, if_neg hmm, ne_eq, hm0, ha0, not_false_eq_true, if_true, List.append_nil, List.append_assoc]
      rw [run_pre hh.reg hh.count]
      simp only [List.cons_append, List.nil_append]
      rw [runG_go hs1, runG_go hs2, runG_done hs3]
      simp
/-- what keys tell is told by its keys, and its count is from 0 to 999 -/
theorem parseG_told {l : List Int} {v : Bool} (h : (parseG l v).2.2 = 1) : (0 ≤ (parseG l v).1.count ∧ (parseG l v).1.count ≤ 999) ∧ parseG (tellG (parseG l v).1) v = ((parseG l v).1, (tellG (parseG l v).1).length, 1) := by
  have hok := run_ok l .start 0 (by trivial) h
  refine ⟨?_, told_ok hok⟩
  obtain ⟨r, n, k, hh, h⟩ := hok
  have hc := hh.count
  unfold parseG
  rcases h with ⟨_, e⟩ | ⟨_, _, _, _, e⟩ | ⟨_, _, _, e⟩ | ⟨_, _, _, _, _, _, e⟩
  all_goals rw [e]; exact hc
end Go.Proofs.Ytnkhlallnblfmaa

/-
  Commands as keys, key by key: layer 11, as plain lists.
-/
import Derived.Test.YtnkhlallnblfmaaWords
namespace Go.Proofs.Ytnkhlallnblfmaa

/-- a command -/
structure CmdG where
  reg : Int
  count : Int
  verb : Int
  move : Int
  arg : Int
deriving DecidableEq
def cmd0 : CmdG := ⟨0, 0, 0, 0, 0⟩
def inG (k : Int) (l : List Int) : Bool := l.contains k
/-- motions that stand alone -/
def aloneG (k : Int) : Bool := inG k [104, 108, 106, 107, 48, 94, 119, 98, 101, 71, 123, 125, 36]
def motionG (k : Int) : Bool := inG k [104, 108, 106, 107, 48, 94, 119, 98, 101, 71, 123, 125, 103, 102, 70, 116, 84, 36]
def operG (k : Int) : Bool := inG k [100, 121, 99, 62, 60]
def nameG (k : Int) : Bool := decide ((97 ≤ k ∧ k ≤ 122) ∨ (65 ≤ k ∧ k ≤ 90) ∨ (48 ≤ k ∧ k ≤ 57) ∨ k = 34 ∨ k = 45 ∨ k = 95)
def objG (k : Int) : Bool := inG k [119, 98, 40, 41, 91, 93, 123, 125, 66, 34, 39]
/-- what has to stand behind a key -/
inductive KindG
  | sign | g | macro_ | object
deriving DecidableEq
def fitsG : KindG → Int → Bool
  | .sign, k => decide (32 ≤ k)
  | .g, k => decide (k = 103)
  | .macro_, k => decide (97 ≤ k ∧ k ≤ 122)
  | .object, k => objG k
def argG : KindG → Int → Int
  | .g, _ => 0
  | _, k => k
/-- where one is in a command -/
inductive StG
  | start | name | verb (c : CmdG) | digits (c : CmdG) | second (q : KindG) (c : CmdG) | oper (c : CmdG) | more (c : CmdG) (n : Int)
inductive OutG
  | go (s : StG) | done (c : CmdG) | bad
def timesG (a b : Int) : Int := if a = 0 ∨ b = 0 then a + b else min (a * b) 999
def kindG (k : Int) (objects : Bool) : Option KindG :=
  if inG k [102, 70, 116, 84] = true then some .sign else if k = 103 then some .g else if objects = true ∧ inG k [105, 97] = true then some .object else none
/-- what a key is: it stands alone, waits for another one, is an operator, is none -/
inductive VK
  | alone | wait (q : KindG) | oper | none_
deriving DecidableEq
def waitsG (q : Option KindG) : VK := match q with | none => .alone | some q => .wait q
def vkG (visual : Bool) (k : Int) : VK :=
  if motionG k = true ∨ k = 27 then waitsG (kindG k visual)
  else if visual = true then (if inG k [100, 121, 99, 62, 60, 120, 74, 126, 111, 118, 86, 58, 105, 97] = true then waitsG (kindG k true) else .none_)
  else if operG k = true then .oper
  else if k = 114 then .wait .sign
  else if inG k [113, 64] = true then .wait .macro_
  else if inG k [105, 97, 73, 65, 111, 79, 120, 88, 112, 80, 117, 46, 74, 118, 86, 58, 126] = true ∨ k = 18 then .alone
  else .none_
def mkG (verb k : Int) : VK := if k = verb ∨ motionG k = true ∨ inG k [105, 97] = true then waitsG (kindG k true) else .none_
def outG (q : VK) (c : CmdG) : OutG := match q with | .alone => .done c | .wait q => .go (.second q c) | .oper => .go (.oper c) | .none_ => .bad
def verbG (visual : Bool) (c : CmdG) (k : Int) : OutG := outG (vkG visual k) { c with verb := k }
def moveG (c : CmdG) (k : Int) : OutG := outG (mkG c.verb k) { c with move := k }
def digit1 (k : Int) : Prop := 49 ≤ k ∧ k ≤ 57
def digit0 (k : Int) : Prop := 48 ≤ k ∧ k ≤ 57
instance (k : Int) : Decidable (digit1 k) := by unfold digit1; infer_instance
instance (k : Int) : Decidable (digit0 k) := by unfold digit0; infer_instance
def stepG (visual : Bool) : StG → Int → OutG
  | .start, k => if k = 34 then .go .name else if digit1 k then .go (.digits { cmd0 with count := k - 48 }) else verbG visual cmd0 k
  | .name, k => if nameG k = true then .go (.verb { cmd0 with reg := k }) else .bad
  | .verb c, k => if digit1 k then .go (.digits { c with count := k - 48 }) else verbG visual c k
  | .digits c, k => if digit0 k then .go (.digits { c with count := min (c.count * 10 + (k - 48)) 999 }) else verbG visual c k
  | .second q c, k => if fitsG q k = true then .done { c with arg := argG q k } else .bad
  | .oper c, k => if digit1 k then .go (.more c (k - 48)) else moveG c k
  | .more c n, k => if digit0 k then .go (.more c (min (n * 10 + (k - 48)) 999)) else moveG { c with count := timesG c.count n } k
/-- keys, one by one: Whole 1, More 2, Bad 3 -/
def runG (visual : Bool) : StG → List Int → Nat → CmdG × Nat × Nat
  | _, [], _ => (cmd0, 0, 2)
  | s, k :: l, n => match stepG visual s k with
    | .go t => runG visual t l (n + 1)
    | .done c => (c, n + 1, 1)
    | .bad => (cmd0, n + 1, 3)
def parseG (l : List Int) (visual : Bool) : CmdG × Nat × Nat := runG visual .start l 0

/-! One way. -/
section
variable {v : Bool} {s t : StG} {k : Int} {c : CmdG} {l : List Int} {n : Nat}
theorem runG_go (h : stepG v s k = .go t) : runG v s (k :: l) n = runG v t l (n + 1) := by
  conv => lhs; unfold runG
  rw [h]
theorem runG_done (h : stepG v s k = .done c) : runG v s (k :: l) n = (c, n + 1, 1) := by
  conv => lhs; unfold runG
  rw [h]
theorem runG_bad (h : stepG v s k = .bad) : runG v s (k :: l) n = (cmd0, n + 1, 3) := by
  conv => lhs; unfold runG
  rw [h]
end
theorem runG_states (v : Bool) : ∀ (l : List Int) (s : StG) (n : Nat), ((runG v s l n).2.2 = 2 ∧ runG v s l n = (cmd0, 0, 2)) ∨ (((runG v s l n).2.2 = 1 ∨ (runG v s l n).2.2 = 3) ∧ n + 1 ≤ (runG v s l n).2.1 ∧ (runG v s l n).2.1 ≤ n + l.length)
  | [], _, _ => .inl ⟨rfl, rfl⟩
  | k :: l, s, n => by
    rcases hs : stepG v s k with t | c | _
    · rw [runG_go hs]
      rcases runG_states v l t (n + 1) with h | ⟨h1, h2, h3⟩
      · exact .inl h
      · exact .inr ⟨h1, by omega, by simp only [List.length_cons]; omega⟩
    · rw [runG_done hs]
      exact .inr ⟨.inl rfl, by simp, by simp⟩
    · rw [runG_bad hs]
      exact .inr ⟨.inr rfl, by simp, by simp⟩
theorem runG_more (v : Bool) : ∀ (l : List Int) (s : StG) (n : Nat) (b : List Int), (runG v s l n).2.2 ≠ 2 → runG v s (l.take ((runG v s l n).2.1 - n) ++ b) n = runG v s l n
  | [], _, _, _, h => absurd rfl h
  | k :: l, s, n, b, h => by
    rcases hs : stepG v s k with t | c | _
    · rw [runG_go hs] at h ⊢
      rcases runG_states v l t (n + 1) with ⟨h1, _⟩ | ⟨h1, h2, h3⟩
      · exact absurd h1 h
      · have e : (runG v t l (n + 1)).2.1 - n = ((runG v t l (n + 1)).2.1 - (n + 1)) + 1 := by omega
        rw [e, List.take_succ_cons, List.cons_append, runG_go hs]
        exact runG_more v l t (n + 1) b h
    · rw [runG_done hs]
      dsimp only
      rw [show n + 1 - n = 0 + 1 by omega, List.take_succ_cons, List.cons_append, runG_done hs]
    · rw [runG_bad hs]
      dsimp only
      rw [show n + 1 - n = 0 + 1 by omega, List.take_succ_cons, List.cons_append, runG_bad hs]
theorem runG_less (v : Bool) : ∀ (l : List Int) (s : StG) (n k : Nat), (runG v s l n).2.2 ≠ 2 → n + k < (runG v s l n).2.1 → (runG v s (l.take k) n).2.2 = 2
  | [], _, _, _, h, _ => absurd rfl h
  | x :: l, s, n, 0, _, _ => rfl
  | x :: l, s, n, k + 1, h, hk => by
    rw [List.take_succ_cons]
    rcases hs : stepG v s x with t | c | _
    · rw [runG_go hs] at h hk ⊢
      exact runG_less v l t (n + 1) k h (by omega)
    · rw [runG_done hs] at hk; dsimp only at hk; omega
    · rw [runG_bad hs] at hk; dsimp only at hk; omega
/-- what is answered hangs on no key behind those that are counted -/
theorem parseG_one_way {l : List Int} {v : Bool} (h : (parseG l v).2.2 ≠ 2) : (1 ≤ (parseG l v).2.1 ∧ (parseG l v).2.1 ≤ l.length) ∧ ((parseG l v).2.2 = 1 ∨ (parseG l v).2.2 = 3) ∧ (∀ b, parseG (l.take (parseG l v).2.1 ++ b) v = parseG l v) ∧ ∀ k, k < (parseG l v).2.1 → (parseG (l.take k) v).2.2 = 2 := by
  unfold parseG at h ⊢
  rcases runG_states v l .start 0 with ⟨h1, _⟩ | ⟨h1, h2, h3⟩
  · exact absurd h1 h
  · exact ⟨⟨by omega, by omega⟩, h1, fun b => by have := runG_more v l .start 0 b h; rwa [Nat.sub_zero] at this, fun k hk => runG_less v l .start 0 k h (by omega)⟩
theorem parseG_open {l : List Int} {v : Bool} (h : (parseG l v).2.2 = 2) : parseG l v = (cmd0, 0, 2) := by
  unfold parseG at h ⊢
  rcases runG_states v l .start 0 with ⟨_, h1⟩ | ⟨h1, _, _⟩
  · exact h1
  · omega

/-! Told. -/
theorem inG_iff {k : Int} {l : List Int} : inG k l = true ↔ k ∈ l := by unfold inG; exact List.contains_iff_mem
/-- digits are no verbs, but 0 -/
theorem vk_digit {v : Bool} {k : Int} (h : vkG v k ≠ .none_) : ¬ digit1 k ∧ k ≠ 34 := by
  constructor
  · intro hd
    unfold digit1 at hd
    rcases (show k = 49 ∨ k = 50 ∨ k = 51 ∨ k = 52 ∨ k = 53 ∨ k = 54 ∨ k = 55 ∨ k = 56 ∨ k = 57 by omega) with rfl | rfl | rfl | rfl | rfl | rfl | rfl | rfl | rfl
    all_goals cases v <;> exact h (by decide)
  · rintro rfl
    cases v <;> exact h (by decide)
theorem mk_digit {d k : Int} (hd : operG d = true) (h : mkG d k ≠ .none_) : ¬ digit1 k := by
  intro hk
  unfold digit1 at hk
  have hd' := inG_iff.1 hd
  simp only [List.mem_cons, List.not_mem_nil, or_false] at hd'
  rcases (show k = 49 ∨ k = 50 ∨ k = 51 ∨ k = 52 ∨ k = 53 ∨ k = 54 ∨ k = 55 ∨ k = 56 ∨ k = 57 by omega) with rfl | rfl | rfl | rfl | rfl | rfl | rfl | rfl | rfl
  all_goals rcases hd' with rfl | rfl | rfl | rfl | rfl
  all_goals exact h (by decide)
theorem waits_g {k : Int} {o : Bool} {q : KindG} (h : waitsG (kindG k o) = .wait q) : q = .g ↔ k = 103 := by
  unfold kindG at h
  split at h
  · next h1 =>
    have := inG_iff.1 h1
    simp only [List.mem_cons, List.not_mem_nil, or_false] at this
    injection h with h
    subst h
    constructor
    · intro e; cases e
    · rintro rfl; omega
  · split at h
    · next h2 => injection h with h; subst h; exact ⟨fun _ => h2, fun _ => rfl⟩
    · next h2 =>
      split at h
      · injection h with h
        subst h
        exact ⟨fun e => (by cases e), fun e => absurd e h2⟩
      · cases h
theorem waits_alone {k : Int} {o : Bool} (h : waitsG (kindG k o) = .alone) : k ≠ 103 := by
  rintro rfl
  unfold kindG at h
  rw [if_neg (by decide), if_pos rfl] at h
  cases h
theorem waits_oper {x : Option KindG} (h : waitsG x = .oper) : False := by cases x <;> cases h
theorem waits_none {x : Option KindG} (h : waitsG x = .none_) : False := by cases x <;> cases h
theorem vk_alone {v : Bool} {k : Int} (h : vkG v k = .alone) : k ≠ 103 := by
  unfold vkG at h
  split at h
  · exact waits_alone h
  · next h1 =>
    rintro rfl
    exact h1 (Or.inl (by decide))
theorem vk_wait {v : Bool} {k : Int} {q : KindG} (h : vkG v k = .wait q) : q = .g ↔ k = 103 := by
  unfold vkG at h
  split at h
  · exact waits_g h
  · next h1 =>
    have hk : k ≠ 103 := by rintro rfl; exact h1 (Or.inl (by decide))
    have key : ∀ r : KindG, r ≠ .g → VK.wait r = .wait q → (q = .g ↔ k = 103) := fun r hr e => by
      injection e with e
      subst e
      exact ⟨fun e => absurd e hr, fun e => absurd e hk⟩
    split at h
    · split at h
      · exact waits_g h
      · cases h
    · split at h
      · cases h
      · split at h
        · exact key _ (by decide) h
        · split at h
          · exact key _ (by decide) h
          · split at h
            · cases h
            · cases h
theorem vk_oper {v : Bool} {k : Int} (h : vkG v k = .oper) : v = false ∧ operG k = true := by
  unfold vkG at h
  split at h
  · exact absurd h (fun e => waits_oper e)
  · split at h
    · split at h
      · exact absurd h (fun e => waits_oper e)
      · cases h
    · next hv =>
      split at h
      · next ho => exact ⟨by simpa using hv, ho⟩
      · split at h
        · cases h
        · split at h
          · cases h
          · split at h
            · cases h
            · cases h
theorem oper_not {k : Int} (h : operG k = true) : k ≠ 103 ∧ k ≠ 0 ∧ ¬ digit0 k := by
  have := inG_iff.1 h
  simp only [List.mem_cons, List.not_mem_nil, or_false] at this
  unfold digit0
  omega
theorem mk_alone {d k : Int} (h : mkG d k = .alone) : k ≠ 103 := by
  unfold mkG at h
  split at h
  · exact waits_alone h
  · cases h
theorem mk_wait {d k : Int} {q : KindG} (h : mkG d k = .wait q) : q = .g ↔ k = 103 := by
  unfold mkG at h
  split at h
  · exact waits_g h
  · cases h
theorem mk_oper {d k : Int} (h : mkG d k = .oper) : False := by
  unfold mkG at h
  split at h
  · exact waits_oper h
  · cases h
theorem mk_zero {d k : Int} (hd : operG d = true) (h : mkG d k ≠ .none_) : k ≠ 0 := by
  rintro rfl
  apply h
  unfold mkG
  rw [if_neg]
  rintro (e | e | e)
  · exact (oper_not hd).2.1 e.symm
  · exact absurd e (by decide)
  · exact absurd e (by decide)
theorem fits_arg {q : KindG} {k : Int} (h : fitsG q k = true) : (q = .g → k = 103 ∧ argG q k = 0) ∧ (q ≠ .g → argG q k = k ∧ k ≠ 0) := by
  cases q
  · exact ⟨fun e => (by cases e), fun _ => ⟨rfl, by have := of_decide_eq_true h; omega⟩⟩
  · exact ⟨fun _ => ⟨of_decide_eq_true h, rfl⟩, fun e => absurd rfl e⟩
  · exact ⟨fun e => (by cases e), fun _ => ⟨rfl, by have := of_decide_eq_true h; omega⟩⟩
  · refine ⟨fun e => (by cases e), fun _ => ⟨rfl, ?_⟩⟩
    have := inG_iff.1 (show inG k _ = true from h)
    simp only [List.mem_cons, List.not_mem_nil, or_false] at this
    omega
end Go.Proofs.Ytnkhlallnblfmaa

/-
  The landed parser as a plain function of keys: which function takes the next key, and what was read; it steps as the document's grammar does: layer 11.
-/
import Derived.Test.YtbfedakncdodcaaGrRef
namespace Go.Proofs.Ytbfedakncdodcaa

/-- which function takes the next key -/
inductive MdG
  | begin_ | register | verb | target | second | character | macro_ | object
deriving DecidableEq
structure PsG where
  visual : Bool
  reg : Int
  verb : Int
  move : Int
  arg : Int
  outer : Int
  inner : Int
  md : MdG
def steps8 : List UInt8 := [104, 108, 106, 107, 48, 94, 36, 119, 98, 101, 71, 123, 125]
def finds8 : List UInt8 := [102, 70, 116, 84]
def opers8 : List UInt8 := [100, 121, 99, 62, 60]
def kinds8 : List UInt8 := [105, 97]
def objs8 : List UInt8 := [119, 98, 40, 41, 91, 93, 123, 125, 66, 34, 39]
def macs8 : List UInt8 := [113, 64]
def norm8 : List UInt8 := [105, 97, 73, 65, 111, 79, 120, 88, 112, 80, 117, 46, 74, 118, 86, 58, 126, 18, 27]
def vis8 : List UInt8 := [120, 74, 126, 111, 118, 86, 58, 27, 100, 121, 99, 62, 60]
def signs8 : List UInt8 := [34, 45, 95]
def lettG (k : Int) : Bool := decide (97 ≤ k ∧ k ≤ 122)
def capG (k : Int) : Bool := decide (65 ≤ k ∧ k ≤ 90)
def digG (k : Int) : Bool := decide (48 ≤ k ∧ k ≤ 57)
def countsG (c k : Int) : Bool := digG k && (!decide (k = 48) || !decide (c = 0))
def longerG (c k : Int) : Int := min (c * 10 + (k - 48)) 999
/-- what a motion's first key is -/
def motL (k : Int) : VK := if inS k steps8 = true then .alone else if inS k finds8 = true then .wait .sign else if k = 103 then .wait .g else .none_
def visL (k : Int) : VK := if inS k vis8 = true then .alone else if inS k kinds8 = true then .wait .object else motL k
def normL (k : Int) : VK := if inS k norm8 = true then .alone else if operG k = true then .oper else if k = 114 then .wait .sign else if inS k macs8 = true then .wait .macro_ else motL k
def vkL (v : Bool) (k : Int) : VK := if v = true then visL k else normL k
def tkL (verb k : Int) : VK := if k = verb then .alone else if inS k kinds8 = true then .wait .object else motL k
def mdG : KindG → MdG
  | .sign => .character
  | .g => .second
  | .macro_ => .macro_
  | .object => .object
/-- what is answered then: Whole 1, More 2, Bad 3 -/
def nextL (q : VK) (s : PsG) : PsG × Nat := match q with
  | .alone => (s, 1)
  | .wait q => ({ s with md := mdG q }, 2)
  | .oper => ({ s with md := .target }, 2)
  | .none_ => (s, 3)
def wholeL (b : Bool) : Nat := if b = true then 1 else 3
def verbL (s : PsG) (k : Int) : PsG × Nat := if countsG s.outer k = true then ({ s with outer := longerG s.outer k, md := .verb }, 2) else nextL (vkL s.visual k) { s with verb := k }
def targetL (s : PsG) (k : Int) : PsG × Nat := if countsG s.inner k = true then ({ s with inner := longerG s.inner k, md := .target }, 2) else nextL (tkL s.verb k) { s with move := k }
def regL (k : Int) : Bool := lettG k || capG k || digG k || inS k signs8
def stepL (s : PsG) (k : Int) : PsG × Nat := match s.md with
  | .begin_ => if k = 34 then ({ s with md := .register }, 2) else verbL s k
  | .register => if regL k = true then ({ s with reg := k, md := .verb }, 2) else (s, 3)
  | .verb => verbL s k
  | .target => targetL s k
  | .second => (s, wholeL (decide (k = 103)))
  | .character => ({ s with arg := k }, wholeL (decide (32 ≤ k)))
  | .macro_ => ({ s with arg := k }, wholeL (lettG k))
  | .object => ({ s with arg := k }, wholeL (inS k objs8))
def doneL (s : PsG) : CmdG := ⟨s.reg, timesG s.outer s.inner, s.verb, s.move, s.arg⟩
def ps0 (v : Bool) : PsG := ⟨v, 0, 0, 0, 0, 0, 0, .begin_⟩

/-! The keys by their numbers. -/
theorem inS_nat (k : Int) (S : List UInt8) : inS k S = true ↔ k ∈ S.map fun b => (b.toNat : Int) := by
  rw [inS_list, inG_iff]
theorem steps_iff {k : Int} : inS k steps8 = true ↔ k ∈ [104, 108, 106, 107, 48, 94, 36, 119, 98, 101, 71, 123, 125] := inS_nat k steps8
theorem finds_iff {k : Int} : inS k finds8 = true ↔ k ∈ [102, 70, 116, 84] := inS_nat k finds8
theorem kinds_iff {k : Int} : inS k kinds8 = true ↔ k ∈ [105, 97] := inS_nat k kinds8
theorem macs_iff {k : Int} : inS k macs8 = true ↔ k ∈ [113, 64] := inS_nat k macs8
theorem objs_is (k : Int) : inS k objs8 = objG k := inS_list k objs8
theorem opers_is (k : Int) : inS k opers8 = operG k := inS_list k opers8

/-- keys that mean something -/
def keysG : List Int := [104, 108, 106, 107, 48, 94, 36, 119, 98, 101, 71, 123, 125, 103, 102, 70, 116, 84, 100, 121, 99, 62, 60, 105, 97, 113, 64, 73, 65, 111, 79, 120, 88, 112, 80, 117, 46, 74, 118, 86, 58, 126, 18, 27, 114]
theorem notIn {k : Int} (h : k ∉ keysG) (S : List UInt8) (hS : ∀ b ∈ S, (b.toNat : Int) ∈ keysG) : inS k S = false := by
  rw [Bool.eq_false_iff]
  intro hk
  obtain ⟨b, hb, rfl⟩ := List.mem_map.1 ((inS_nat k S).1 hk)
  exact h (hS b hb)
theorem notInG {k : Int} (h : k ∉ keysG) (l : List Int) (hl : ∀ x ∈ l, x ∈ keysG) : inG k l = false := by
  rw [Bool.eq_false_iff]
  intro hk
  exact h (hl k (inG_iff.1 hk))
theorem motL_other {k : Int} (h : k ∉ keysG) : motL k = .none_ := by
  unfold motL
  rw [notIn h steps8 (by decide), notIn h finds8 (by decide), if_neg (by decide), if_neg (by decide), if_neg (by rintro rfl; exact h (by decide))]
theorem vk_same (v : Bool) (k : Int) : vkL v k = vkG v k := by
  by_cases h : k ∈ keysG
  · have key : ∀ k ∈ keysG, ∀ v : Bool, vkL v k = vkG v k := by decide +kernel
    exact key k h v
  · have e1 : vkL v k = .none_ := by
      unfold vkL
      split
      · unfold visL
        rw [notIn h vis8 (by decide), notIn h kinds8 (by decide), if_neg (by decide), if_neg (by decide), motL_other h]
      · unfold normL
        rw [notIn h norm8 (by decide), notIn h macs8 (by decide), if_neg (by decide), if_neg (by rw [show operG k = false from notInG h _ (by decide)]; decide), if_neg (by rintro rfl; exact h (by decide)), if_neg (by decide), motL_other h]
    have h27 : k ≠ 27 := by rintro rfl; exact h (by decide)
    have h114 : k ≠ 114 := by rintro rfl; exact h (by decide)
    have h18 : k ≠ 18 := by rintro rfl; exact h (by decide)
    have e2 : vkG v k = .none_ := by
      unfold vkG
      rw [show motionG k = false from notInG h _ (by decide), show operG k = false from notInG h _ (by decide), notInG h [100, 121, 99, 62, 60, 120, 74, 126, 111, 118, 86, 58, 105, 97] (by decide), notInG h [113, 64] (by decide), notInG h [105, 97, 73, 65, 111, 79, 120, 88, 112, 80, 117, 46, 74, 118, 86, 58, 126] (by decide)]
      simp [h27, h114, h18]
    rw [e1, e2]
theorem mk_same {d : Int} (hd : operG d = true) (k : Int) : tkL d k = mkG d k := by
  by_cases h : k ∈ keysG
  · have key : ∀ d ∈ [100, 121, 99, 62, 60], ∀ k ∈ keysG, tkL d k = mkG d k := by decide +kernel
    exact key d (inG_iff.1 hd) k h
  · have hk : k ≠ d := by
      rintro rfl
      have := notInG h [100, 121, 99, 62, 60] (by decide)
      have hd' : inG k [100, 121, 99, 62, 60] = true := hd
      rw [this] at hd'
      cases hd'
    unfold tkL mkG
    rw [if_neg hk, notIn h kinds8 (by decide), if_neg (by decide), motL_other h, show motionG k = false from notInG h _ (by decide), notInG h [105, 97] (by decide), if_neg (by simp [hk])]
theorem reg_same (k : Int) : regL k = nameG k := by
  have e : inS k signs8 = decide (k = 34 ∨ k = 45 ∨ k = 95) := by
    rw [Bool.eq_iff_iff, inS_nat, decide_eq_true_iff]
    show k ∈ [34, 45, 95] ↔ _
    simp only [List.mem_cons, List.not_mem_nil, or_false]
  unfold regL nameG lettG capG digG
  rw [e, Bool.eq_iff_iff]
  simp only [Bool.or_eq_true, decide_eq_true_eq]
  omega

/-! Where the landed parser is in the document's grammar. -/
def absG (s : PsG) : StG := match s.md with
  | .begin_ => .start
  | .register => .name
  | .verb => if s.outer = 0 then .verb ⟨s.reg, 0, 0, 0, 0⟩ else .digits ⟨s.reg, s.outer, 0, 0, 0⟩
  | .target => if s.inner = 0 then .oper ⟨s.reg, s.outer, s.verb, 0, 0⟩ else .more ⟨s.reg, s.outer, s.verb, 0, 0⟩ s.inner
  | .second => .second .g (doneL s)
  | .character => .second .sign (doneL s)
  | .macro_ => .second .macro_ (doneL s)
  | .object => .second .object (doneL s)
def OkL (s : PsG) : Prop := (0 ≤ s.outer ∧ s.outer ≤ 999) ∧ (0 ≤ s.inner ∧ s.inner ≤ 999) ∧ s.arg = 0 ∧ match s.md with
  | .begin_ => s.reg = 0 ∧ s.outer = 0 ∧ s.inner = 0 ∧ s.verb = 0 ∧ s.move = 0
  | .register => s.reg = 0 ∧ s.outer = 0 ∧ s.inner = 0 ∧ s.verb = 0 ∧ s.move = 0
  | .verb => s.inner = 0 ∧ s.verb = 0 ∧ s.move = 0
  | .target => s.move = 0 ∧ operG s.verb = true
  | _ => True
/-- as the document steps -/
def SimG (r : PsG × Nat) (v : Bool) (o : OutG) : Prop := match o with
  | .go t => r.2 = 2 ∧ OkL r.1 ∧ absG r.1 = t ∧ r.1.visual = v
  | .done c => r.2 = 1 ∧ doneL r.1 = c ∧ (0 ≤ r.1.outer ∧ r.1.outer ≤ 999) ∧ (0 ≤ r.1.inner ∧ r.1.inner ≤ 999)
  | .bad => r.2 = 3
theorem count_zero (k : Int) : countsG 0 k = true ↔ digit1 k := by
  unfold countsG digG digit1
  simp
  omega
theorem count_more {c : Int} (hc : c ≠ 0) (k : Int) : countsG c k = true ↔ digit0 k := by
  unfold countsG digG digit0
  simp [hc]
theorem times_zero (a : Int) : timesG a 0 = a := by unfold timesG; rw [if_pos (.inr rfl)]; omega
theorem sim_next {q : VK} {s : PsG} {c : CmdG} (ho : 0 ≤ s.outer ∧ s.outer ≤ 999) (hi : 0 ≤ s.inner ∧ s.inner ≤ 999) (ha : s.arg = 0) (hc : doneL s = c) (hq : q = .oper → s.move = 0 ∧ operG s.verb = true ∧ s.inner = 0) : SimG (nextL q s) s.visual (outG q c) := by
  cases q with
  | alone => exact ⟨rfl, hc, ho, hi⟩
  | none_ => rfl
  | oper =>
    obtain ⟨h1, h2, h3⟩ := hq rfl
    refine ⟨rfl, ⟨ho, hi, ha, h1, h2⟩, ?_, rfl⟩
    show (if s.inner = 0 then _ else _) = _
    rw [if_pos h3, ← hc]
    unfold doneL
    rw [h3, times_zero, h1, ha]
    rfl
  | wait q =>
    cases q with
    | sign => exact ⟨rfl, ⟨ho, hi, ha, trivial⟩, by rw [← hc]; rfl, rfl⟩
    | g => exact ⟨rfl, ⟨ho, hi, ha, trivial⟩, by rw [← hc]; rfl, rfl⟩
    | macro_ => exact ⟨rfl, ⟨ho, hi, ha, trivial⟩, by rw [← hc]; rfl, rfl⟩
    | object => exact ⟨rfl, ⟨ho, hi, ha, trivial⟩, by rw [← hc]; rfl, rfl⟩
theorem longer_range {c k : Int} (hc : 0 ≤ c) (hk : digit0 k) : 0 ≤ longerG c k ∧ longerG c k ≤ 999 := by unfold longerG; unfold digit0 at hk; omega
theorem digit0_of {k : Int} (h : digit1 k) : digit0 k := by unfold digit1 at h; unfold digit0; omega
theorem longer_pos {c k : Int} (_hc : 0 ≤ c) (hk : digit0 k) (h : c ≠ 0 ∨ digit1 k) : longerG c k ≠ 0 := by unfold longerG; unfold digit0 at hk; unfold digit1 at h; omega
/-- the verb's step -/
theorem sim_verb {s : PsG} (ho : 0 ≤ s.outer ∧ s.outer ≤ 999) (hi : s.inner = 0) (ha : s.arg = 0) (hv : s.verb = 0) (hm : s.move = 0) (k : Int) :
    SimG (verbL s k) s.visual (stepG s.visual (if s.outer = 0 then .verb ⟨s.reg, 0, 0, 0, 0⟩ else .digits ⟨s.reg, s.outer, 0, 0, 0⟩) k) := by
  have hi' : 0 ≤ s.inner ∧ s.inner ≤ 999 := by omega
  have other : ¬ countsG s.outer k = true → SimG (verbL s k) s.visual (verbG s.visual ⟨s.reg, s.outer, 0, 0, 0⟩ k) := fun hn => by
    unfold verbL
    rw [if_neg hn, vk_same]
    refine sim_next (s := { s with verb := k }) ho hi' ha ?_ fun hq => ⟨hm, (vk_oper hq).2, hi⟩
    unfold doneL
    dsimp only
    rw [hi, times_zero, hm, ha]
  by_cases h0 : s.outer = 0
  · rw [if_pos h0]
    by_cases hd : digit1 k
    · unfold verbL
      rw [if_pos (by rw [h0]; exact (count_zero k).2 hd)]
      show SimG _ _ (if digit1 k then _ else _)
      rw [if_pos hd]
      refine ⟨rfl, ⟨longer_range ho.1 (digit0_of hd), hi', ha, hi, hv, hm⟩, ?_, rfl⟩
      show (if longerG s.outer k = 0 then _ else _) = _
      rw [if_neg (longer_pos ho.1 (digit0_of hd) (.inr hd))]
      unfold longerG
      unfold digit1 at hd
      rw [h0, show min (0 * 10 + (k - 48)) 999 = k - 48 by omega]
    · have := other (by rw [h0, count_zero]; exact hd)
      rw [h0] at this
      show SimG _ _ (if digit1 k then _ else _)
      rw [if_neg hd]
      exact this
  · rw [if_neg h0]
    by_cases hd : digit0 k
    · unfold verbL
      rw [if_pos ((count_more h0 k).2 hd)]
      show SimG _ _ (if digit0 k then _ else _)
      rw [if_pos hd]
      refine ⟨rfl, ⟨longer_range ho.1 hd, hi', ha, hi, hv, hm⟩, ?_, rfl⟩
      show (if longerG s.outer k = 0 then _ else _) = _
      rw [if_neg (longer_pos ho.1 hd (.inl h0))]
      rfl
    · show SimG _ _ (if digit0 k then _ else _)
      rw [if_neg hd]
      exact other (by rw [count_more h0]; exact hd)
theorem sim_target {s : PsG} (ho : 0 ≤ s.outer ∧ s.outer ≤ 999) (hi : 0 ≤ s.inner ∧ s.inner ≤ 999) (ha : s.arg = 0) (hv : operG s.verb = true) (hm : s.move = 0) (k : Int) :
    SimG (targetL s k) s.visual (stepG s.visual (if s.inner = 0 then .oper ⟨s.reg, s.outer, s.verb, 0, 0⟩ else .more ⟨s.reg, s.outer, s.verb, 0, 0⟩ s.inner) k) := by
  have other : ¬ countsG s.inner k = true → SimG (targetL s k) s.visual (moveG ⟨s.reg, timesG s.outer s.inner, s.verb, 0, 0⟩ k) := fun hn => by
    unfold targetL moveG
    rw [if_neg hn, mk_same hv]
    refine sim_next (s := { s with move := k }) ho hi ha ?_ fun hq => (mk_oper hq).elim
    unfold doneL
    dsimp only
    rw [ha]
  by_cases h0 : s.inner = 0
  · rw [if_pos h0]
    by_cases hd : digit1 k
    · unfold targetL
      rw [if_pos (by rw [h0]; exact (count_zero k).2 hd)]
      show SimG _ _ (if digit1 k then _ else _)
      rw [if_pos hd]
      refine ⟨rfl, ⟨ho, longer_range hi.1 (digit0_of hd), ha, hm, hv⟩, ?_, rfl⟩
      show (if longerG s.inner k = 0 then _ else _) = _
      rw [if_neg (longer_pos hi.1 (digit0_of hd) (.inr hd))]
      unfold longerG
      unfold digit1 at hd
      rw [h0, show min (0 * 10 + (k - 48)) 999 = k - 48 by omega]
    · have := other (by rw [h0, count_zero]; exact hd)
      rw [h0, times_zero] at this
      show SimG _ _ (if digit1 k then _ else _)
      rw [if_neg hd]
      exact this
  · rw [if_neg h0]
    by_cases hd : digit0 k
    · unfold targetL
      rw [if_pos ((count_more h0 k).2 hd)]
      show SimG _ _ (if digit0 k then _ else _)
      rw [if_pos hd]
      refine ⟨rfl, ⟨ho, longer_range hi.1 hd, ha, hm, hv⟩, ?_, rfl⟩
      show (if longerG s.inner k = 0 then _ else _) = _
      rw [if_neg (longer_pos hi.1 hd (.inl h0))]
      rfl
    · show SimG _ _ (if digit0 k then _ else _)
      rw [if_neg hd]
      exact other (by rw [count_more h0]; exact hd)
theorem sim_fits {s : PsG} {q : KindG} {k : Int} {r : PsG × Nat} (ho : 0 ≤ s.outer ∧ s.outer ≤ 999) (hi : 0 ≤ s.inner ∧ s.inner ≤ 999) (hr : r.1.outer = s.outer ∧ r.1.inner = s.inner) (hd : doneL r.1 = { doneL s with arg := argG q k }) (h : r.2 = wholeL (fitsG q k)) : SimG r s.visual (stepG s.visual (.second q (doneL s)) k) := by
  show SimG _ _ (if fitsG q k = true then _ else _)
  split
  · next hf => exact ⟨by rw [h, hf]; rfl, hd, by rw [hr.1]; exact ho, by rw [hr.2]; exact hi⟩
  · next hf => show r.2 = 3; rw [h]; unfold wholeL; rw [if_neg hf]
theorem sim_step {s : PsG} (h : OkL s) (k : Int) : SimG (stepL s k) s.visual (stepG s.visual (absG s) k) := by
  obtain ⟨v, reg, verb, move, arg, outer, inner, md⟩ := s
  obtain ⟨ho, hi, ha, hm⟩ := h
  dsimp only at ho hi ha hm
  cases md with
  | begin_ =>
    obtain ⟨rfl, rfl, rfl, rfl, rfl⟩ := hm
    subst ha
    show SimG (if k = 34 then _ else _) v (if k = 34 then _ else if digit1 k then _ else _)
    by_cases hk : k = 34
    · rw [if_pos hk, if_pos hk]
      exact ⟨rfl, ⟨ho, hi, rfl, rfl, rfl, rfl, rfl, rfl⟩, rfl, rfl⟩
    · rw [if_neg hk, if_neg hk]
      exact sim_verb (s := ⟨v, 0, 0, 0, 0, 0, 0, .begin_⟩) ho rfl rfl rfl rfl k
  | register =>
    obtain ⟨rfl, rfl, rfl, rfl, rfl⟩ := hm
    subst ha
    show SimG (if regL k = true then _ else _) v (if nameG k = true then _ else _)
    rw [reg_same]
    by_cases hk : nameG k = true
    · rw [if_pos hk, if_pos hk]
      exact ⟨rfl, ⟨ho, hi, rfl, rfl, rfl, rfl⟩, rfl, rfl⟩
    · rw [if_neg hk, if_neg hk]
      rfl
  | verb =>
    obtain ⟨h1, h2, h3⟩ := hm
    exact sim_verb (s := ⟨v, reg, verb, move, arg, outer, inner, .verb⟩) ho h1 ha h2 h3 k
  | target =>
    obtain ⟨h1, h2⟩ := hm
    exact sim_target (s := ⟨v, reg, verb, move, arg, outer, inner, .target⟩) ho hi ha h2 h1 k
  | second =>
    subst ha
    exact sim_fits (s := ⟨v, reg, verb, move, 0, outer, inner, .second⟩) (q := .g) ho hi ⟨rfl, rfl⟩ rfl rfl
  | character => exact sim_fits (s := ⟨v, reg, verb, move, arg, outer, inner, .character⟩) (q := .sign) ho hi ⟨rfl, rfl⟩ rfl rfl
  | macro_ => exact sim_fits (s := ⟨v, reg, verb, move, arg, outer, inner, .macro_⟩) (q := .macro_) ho hi ⟨rfl, rfl⟩ rfl rfl
  | object => exact sim_fits (s := ⟨v, reg, verb, move, arg, outer, inner, .object⟩) (q := .object) ho hi ⟨rfl, rfl⟩ rfl (by show wholeL (inS k objs8) = _; rw [objs_is]; rfl)
end Go.Proofs.Ytbfedakncdodcaa

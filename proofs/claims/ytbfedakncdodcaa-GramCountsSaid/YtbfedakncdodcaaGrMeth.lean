/-
  The landed parser's methods, as steps of the plain parser: layer 11.
-/
import Derived.Test.YtbfedakncdodcaaGrIn
import Derived.Laws.EntriesVeiled
import Derived.StillTailTactics
import Derived.Deep.DeepCutAuto
namespace Go.Proofs.Ytbfedakncdodcaa
open Go.RowKit

def fnG : MdG → Nat
  | .begin_ => 17
  | .register => 21
  | .verb => 22
  | .target => 30
  | .second => 36
  | .character => 31
  | .macro_ => 32
  | .object => 34
/-- the function value that takes the next key: a method that holds the parser -/
def nxtG (P : Nat) (f : Nat) : Value := .func (.func f) #[.pointer (some ⟨P, 0, none⟩)] #[]
def parC (s : PsG) (nx : Value) : Array Value := #[.bool s.visual, .int .i32 s.reg, .int .i64 0, .int .i32 s.verb, .int .i32 s.move, .int .i32 s.arg, .int .i64 s.outer, .int .i64 s.inner, nx]
/-- the parser lies in block P, with s in it -/
def IsP (w : World) (P : Nat) (s : PsG) : Prop := Blk w P 43 (parC s (nxtG P (fnG s.md)))
def GivesPG (P : Nat) (w : World) (r : PsG × Nat) (e : Ending) (w' : World) : Prop := e = .returned (.int .i64 (r.2 : Nat)) ∧ IsP w' P r.1 ∧ Below P w w'
section
variable {w w' : World} {P : Nat} {s : PsG}
theorem IsP.below (h : IsP w P s) (hb : Below w.heap.size w w') : IsP w' P s := Blk.below h hb (Blk.lt h)
theorem IsP.lt (h : IsP w P s) : P < w.heap.size := Blk.lt h
theorem IsP.visual (h : IsP w P s) : w.cell? ⟨P, 0, none⟩ = some (.bool s.visual) := Blk.cell h 0
theorem IsP.verb (h : IsP w P s) : w.cell? ⟨P, 3, none⟩ = some (.int .i32 s.verb) := Blk.cell h 3
theorem IsP.outer (h : IsP w P s) : w.cell? ⟨P, 6, none⟩ = some (.int .i64 s.outer) := Blk.cell h 6
theorem IsP.inner (h : IsP w P s) : w.cell? ⟨P, 7, none⟩ = some (.int .i64 s.inner) := Blk.cell h 7
theorem IsP.next (h : IsP w P s) : w.cell? ⟨P, 8, none⟩ = some (nxtG P (fnG s.md)) := Blk.cell h 8
theorem IsP.set_reg (h : IsP w P s) (k : Int) : IsP (w.setCell ⟨P, 1, none⟩ (.int .i32 k)) P { s with reg := k } := Blk.set_ h 1 _
theorem IsP.set_verb (h : IsP w P s) (k : Int) : IsP (w.setCell ⟨P, 3, none⟩ (.int .i32 k)) P { s with verb := k } := Blk.set_ h 3 _
theorem IsP.set_move (h : IsP w P s) (k : Int) : IsP (w.setCell ⟨P, 4, none⟩ (.int .i32 k)) P { s with move := k } := Blk.set_ h 4 _
theorem IsP.set_arg (h : IsP w P s) (k : Int) : IsP (w.setCell ⟨P, 5, none⟩ (.int .i32 k)) P { s with arg := k } := Blk.set_ h 5 _
theorem IsP.set_outer (h : IsP w P s) (k : Int) : IsP (w.setCell ⟨P, 6, none⟩ (.int .i64 k)) P { s with outer := k } := Blk.set_ h 6 _
theorem IsP.set_inner (h : IsP w P s) (k : Int) : IsP (w.setCell ⟨P, 7, none⟩ (.int .i64 k)) P { s with inner := k } := Blk.set_ h 7 _
theorem IsP.set_next (h : IsP w P s) (m : MdG) : IsP (w.setCell ⟨P, 8, none⟩ (nxtG P (fnG m))) P { s with md := m } := Blk.set_ h 8 _
theorem set_below (w : World) (P i : Nat) (u : Value) : Below P w (w.setCell ⟨P, i, none⟩ u) := (Below.refl P w).setCell (p := ⟨P, i, none⟩) (Nat.le_refl _) _
end

theorem use_factG {p G : Prop} (h : p) (k : p → G) : G := k h
theorem gramIn_steps (k : Int) (b : Bool) (hb : inS k steps8 = b) (w : World) : Calls Try.prog 15 #[.int .i32 k, .string ⟨#[104, 108, 106, 107, 48, 94, 36, 119, 98, 101, 71, 123, 125]⟩] w fun e w' => e = .returned (.bool b) ∧ Below w.heap.size w w' := by
  have h := gramIn_any k steps8 (by decide) (by decide) w
  rw [hb] at h
  exact h
theorem gramIn_finds (k : Int) (b : Bool) (hb : inS k finds8 = b) (w : World) : Calls Try.prog 15 #[.int .i32 k, .string ⟨#[102, 70, 116, 84]⟩] w fun e w' => e = .returned (.bool b) ∧ Below w.heap.size w w' := by
  have h := gramIn_any k finds8 (by decide) (by decide) w
  rw [hb] at h
  exact h
theorem gramIn_opers (k : Int) (b : Bool) (hb : inS k opers8 = b) (w : World) : Calls Try.prog 15 #[.int .i32 k, .string ⟨#[100, 121, 99, 62, 60]⟩] w fun e w' => e = .returned (.bool b) ∧ Below w.heap.size w w' := by
  have h := gramIn_any k opers8 (by decide) (by decide) w
  rw [hb] at h
  exact h
theorem gramIn_kinds (k : Int) (b : Bool) (hb : inS k kinds8 = b) (w : World) : Calls Try.prog 15 #[.int .i32 k, .string ⟨#[105, 97]⟩] w fun e w' => e = .returned (.bool b) ∧ Below w.heap.size w w' := by
  have h := gramIn_any k kinds8 (by decide) (by decide) w
  rw [hb] at h
  exact h
theorem gramIn_objs (k : Int) (b : Bool) (hb : inS k objs8 = b) (w : World) : Calls Try.prog 15 #[.int .i32 k, .string ⟨#[119, 98, 40, 41, 91, 93, 123, 125, 66, 34, 39]⟩] w fun e w' => e = .returned (.bool b) ∧ Below w.heap.size w w' := by
  have h := gramIn_any k objs8 (by decide) (by decide) w
  rw [hb] at h
  exact h
theorem gramIn_macs (k : Int) (b : Bool) (hb : inS k macs8 = b) (w : World) : Calls Try.prog 15 #[.int .i32 k, .string ⟨#[113, 64]⟩] w fun e w' => e = .returned (.bool b) ∧ Below w.heap.size w w' := by
  have h := gramIn_any k macs8 (by decide) (by decide) w
  rw [hb] at h
  exact h
theorem gramIn_norm (k : Int) (b : Bool) (hb : inS k norm8 = b) (w : World) : Calls Try.prog 15 #[.int .i32 k, .string ⟨#[105, 97, 73, 65, 111, 79, 120, 88, 112, 80, 117, 46, 74, 118, 86, 58, 126, 18, 27]⟩] w fun e w' => e = .returned (.bool b) ∧ Below w.heap.size w w' := by
  have h := gramIn_any k norm8 (by decide) (by decide) w
  rw [hb] at h
  exact h
theorem gramIn_vis (k : Int) (b : Bool) (hb : inS k vis8 = b) (w : World) : Calls Try.prog 15 #[.int .i32 k, .string ⟨#[120, 74, 126, 111, 118, 86, 58, 27, 100, 121, 99, 62, 60]⟩] w fun e w' => e = .returned (.bool b) ∧ Below w.heap.size w w' := by
  have h := gramIn_any k vis8 (by decide) (by decide) w
  rw [hb] at h
  exact h
theorem gramIn_signs (k : Int) (b : Bool) (hb : inS k signs8 = b) (w : World) : Calls Try.prog 15 #[.int .i32 k, .string ⟨#[34, 45, 95]⟩] w fun e w' => e = .returned (.bool b) ∧ Below w.heap.size w w' := by
  have h := gramIn_any k signs8 (by decide) (by decide) w
  rw [hb] at h
  exact h
/-- the next key goes to another method -/
theorem gramGoOn_any (s : PsG) (m : MdG) (P : Nat) (w : World) (h : IsP w P s) :
    Calls Try.prog 20 #[.pointer (some ⟨P, 0, none⟩), nxtG P (fnG m)] w (GivesPG P w ({ s with md := m }, 2)) := by
  have yz : w.frozen? ⟨P, 8, none⟩ = false := Blk.frozen h 8
  have H := Lib.hid h.next
  have H2 := Lib.hid (h.set_next m)
  unfold nxtG at H H2 ⊢
  generalize fnG m = fm at *
  generalize fnG s.md = fs at *
  go_enter Try.func20, Try.ntmps20
  have y := H.out
  go_wp2_with fail
  go_ret
  exact ⟨rfl, H2.out, set_below _ _ _ _⟩
theorem gramArg_any (s : PsG) (k : Int) (b : Bool) (P : Nat) (w : World) (h : IsP w P s) :
    Calls Try.prog 35 #[.pointer (some ⟨P, 0, none⟩), .int .i32 k, .bool b] w (GivesPG P w ({ s with arg := k }, wholeL b)) := by
  have y : w.cell? ⟨P, 5, none⟩ = some (.int .i32 s.arg) := Blk.cell h 5
  have yz : w.frozen? ⟨P, 5, none⟩ = false := Blk.frozen h 5
  have H2 := Lib.hid (h.set_arg k)
  go_enter Try.func35, Try.ntmps35
  go_wp2_with (go_at_call 37; refine (gramWholeIf_any b _).mono ?_; rintro e w1 ⟨rfl, hw⟩; subst w1)
  go_ret
  exact ⟨rfl, H2.out, set_below _ _ _ _⟩
/-- where a function of bools leaves what was met, in a hidden fact -/
theorem gramMotion2_any (s : PsG) (k : Int) (P : Nat) (w : World) (h : IsP w P s) :
    Calls Try.prog 33 #[.pointer (some ⟨P, 0, none⟩), .int .i32 k] w (GivesPG P w (nextL (motL k) s)) := by
  have HP := Lib.hid h
  have z := h.lt
  clear h
  unfold motL
  go_enter Try.func33, Try.ntmps33
  cases h1 : inS k steps8 with
  | true =>
    go_wp2_with (go_at_call 15; refine (gramIn_steps _ _ h1 _).mono ?_; rintro e w1 ⟨rfl, b1⟩)
    go_ret
    exact ⟨rfl, HP.out.below b1, b1.mono (Nat.le_of_lt z)⟩
  | false =>
    cases h2 : inS k finds8 with
    | true =>
      go_wp2_with (first
        | (go_at_call 15; with_reducible refine use_factG b1 ?_; intro _; refine (gramIn_finds _ _ h2 _).mono ?_; rintro e w2 ⟨rfl, b2⟩; have HP2 := Lib.hid (HP.out.below (b1.trans (b2.mono b1.size))))
        | (go_at_call 15; refine (gramIn_steps _ _ h1 _).mono ?_; rintro e w1 ⟨rfl, b1⟩)
        | (go_at_call 20; refine (gramGoOn_any s .character P _ HP2.out).mono ?_; rintro e w3 ⟨rfl, HP3, b3⟩))
      go_ret
      exact ⟨rfl, HP3, ((b1.trans (b2.mono b1.size)).mono (Nat.le_of_lt z)).trans b3⟩
    | false =>
      by_cases h3 : k = 103
      · subst h3
        go_wp2_with (first
          | (go_at_call 15; with_reducible refine use_factG b1 ?_; intro _; refine (gramIn_finds _ _ h2 _).mono ?_; rintro e w2 ⟨rfl, b2⟩; have HP2 := Lib.hid (HP.out.below (b1.trans (b2.mono b1.size))))
          | (go_at_call 15; refine (gramIn_steps _ _ h1 _).mono ?_; rintro e w1 ⟨rfl, b1⟩)
          | (go_at_call 20; refine (gramGoOn_any s .second P _ HP2.out).mono ?_; rintro e w3 ⟨rfl, HP3, b3⟩))
        go_ret
        exact ⟨rfl, HP3, ((b1.trans (b2.mono b1.size)).mono (Nat.le_of_lt z)).trans b3⟩
      · rw [if_neg (by decide), if_neg (by decide), if_neg h3]
        go_wp2_with (first
          | (go_at_call 15; with_reducible refine use_factG b1 ?_; intro _; refine (gramIn_finds _ _ h2 _).mono ?_; rintro e w2 ⟨rfl, b2⟩; have HP2 := Lib.hid (HP.out.below (b1.trans (b2.mono b1.size))))
          | (go_at_call 15; refine (gramIn_steps _ _ h1 _).mono ?_; rintro e w1 ⟨rfl, b1⟩))
        go_ret
        exact ⟨rfl, HP2.out, (b1.trans (b2.mono b1.size)).mono (Nat.le_of_lt z)⟩
theorem gramMotionK (k : Int) : motionG k = (inS k steps8 || inS k finds8 || decide (k = 103)) := by
  rw [Bool.eq_iff_iff]
  unfold motionG
  simp only [Bool.or_eq_true, steps_iff, finds_iff, inG_iff, decide_eq_true_eq, List.mem_cons, List.not_mem_nil, or_false]
  omega
theorem gramMotion_any (k : Int) (w : World) : Calls Try.prog 8 #[.int .i32 k] w fun e w' => e = .returned (.bool (motionG k)) ∧ Below w.heap.size w w' := by
  rw [gramMotionK]
  go_enter Try.func8, Try.ntmps8
  cases h1 : inS k steps8 with
  | true =>
    go_wp2_with (go_at_call 15; with_reducible refine (gramIn_steps _ _ h1 _).mono ?_; rintro e w1 ⟨rfl, b1⟩)
    go_ret
    exact ⟨rfl, b1⟩
  | false =>
    cases h2 : inS k finds8 with
    | true =>
      go_wp2_with (first
        | (go_at_call 15; with_reducible refine (gramIn_steps _ _ h1 _).mono ?_; rintro e w1 ⟨rfl, b1⟩)
        | (go_at_call 15; with_reducible refine (gramIn_finds _ _ h2 _).mono ?_; rintro e w2 ⟨rfl, b2⟩))
      go_ret
      exact ⟨rfl, b1.trans (b2.mono b1.size)⟩
    | false =>
      by_cases h3 : k = 103
      · subst h3
        go_wp2_with (first
          | (go_at_call 15; with_reducible refine (gramIn_steps _ _ h1 _).mono ?_; rintro e w1 ⟨rfl, b1⟩)
          | (go_at_call 15; with_reducible refine (gramIn_finds _ _ h2 _).mono ?_; rintro e w2 ⟨rfl, b2⟩))
        go_ret
        exact ⟨rfl, b1.trans (b2.mono b1.size)⟩
      · have h3' := decide_eq_false h3
        rw [h3']
        have h4 : (k == 103) = false := by simpa using h3
        go_wp2_with (first
          | (go_at_call 15; with_reducible refine (gramIn_steps _ _ h1 _).mono ?_; rintro e w1 ⟨rfl, b1⟩)
          | (go_at_call 15; with_reducible refine (gramIn_finds _ _ h2 _).mono ?_; rintro e w2 ⟨rfl, b2⟩))
        go_ret
        exact ⟨rfl, b1.trans (b2.mono b1.size)⟩
theorem gramOper_any (k : Int) (w : World) : Calls Try.prog 10 #[.int .i32 k] w fun e w' => e = .returned (.bool (operG k)) ∧ Below w.heap.size w w' := by
  have h1 := opers_is k
  go_enter Try.func10, Try.ntmps10
  go_wp2_with (go_at_call 15; with_reducible refine (gramIn_opers _ _ h1 _).mono ?_; rintro e w1 ⟨rfl, b1⟩)
  go_ret
  exact ⟨rfl, b1⟩
theorem gramSecond_any (s : PsG) (k : Int) (P : Nat) (w : World) (h : IsP w P s) :
    Calls Try.prog 36 #[.pointer (some ⟨P, 0, none⟩), .int .i32 k] w (GivesPG P w (s, wholeL (decide (k = 103)))) := by
  have HP := Lib.hid h
  clear h
  go_enter Try.func36, Try.ntmps36
  by_cases hk : k = 103
  · subst hk
    go_wp2_with (go_at_call 37; refine (gramWholeIf_any _ _).mono ?_; rintro e w1 ⟨rfl, hw⟩; subst w1)
    go_ret
    exact ⟨rfl, HP.out, Below.refl _ _⟩
  · have h4 : (k == 103) = false := by simpa using hk
    rw [decide_eq_false hk]
    go_wp2_with (go_at_call 37; refine (gramWholeIf_any _ _).mono ?_; rintro e w1 ⟨rfl, hw⟩; subst w1)
    go_ret
    exact ⟨rfl, HP.out, Below.refl _ _⟩
theorem gramCharacter_any (s : PsG) (k : Int) (P : Nat) (w : World) (h : IsP w P s) :
    Calls Try.prog 31 #[.pointer (some ⟨P, 0, none⟩), .int .i32 k] w (GivesPG P w ({ s with arg := k }, wholeL (decide (32 ≤ k)))) := by
  have HP := Lib.hid h
  clear h
  go_enter Try.func31, Try.ntmps31
  by_cases hk : 32 ≤ k
  · rw [decide_eq_true hk]
    go_wp2_with (go_at_call 35; refine (gramArg_any s k true P _ HP.out).mono ?_; rintro e w1 ⟨rfl, h1, b1⟩)
    go_ret
    exact ⟨rfl, h1, b1⟩
  · rw [decide_eq_false hk]
    go_wp2_with (go_at_call 35; refine (gramArg_any s k false P _ HP.out).mono ?_; rintro e w1 ⟨rfl, h1, b1⟩)
    go_ret
    exact ⟨rfl, h1, b1⟩
theorem gramMacro_any (s : PsG) (k : Int) (P : Nat) (w : World) (h : IsP w P s) :
    Calls Try.prog 32 #[.pointer (some ⟨P, 0, none⟩), .int .i32 k] w (GivesPG P w ({ s with arg := k }, wholeL (lettG k))) := by
  have HP := Lib.hid h
  clear h
  go_enter Try.func32, Try.ntmps32
  go_wp2_with (first
    | (go_at_call 24; refine (gramLetter_any k _).mono ?_; rintro e w2 ⟨rfl, hw⟩; subst w2)
    | (go_at_call 35; refine (gramArg_any s k _ P _ HP.out).mono ?_; rintro e w1 ⟨rfl, h1, b1⟩))
  go_ret
  exact ⟨rfl, h1, b1⟩
theorem gramObject_any (s : PsG) (k : Int) (P : Nat) (w : World) (h : IsP w P s) :
    Calls Try.prog 34 #[.pointer (some ⟨P, 0, none⟩), .int .i32 k] w (GivesPG P w ({ s with arg := k }, wholeL (inS k objs8))) := by
  have HP := Lib.hid h
  have BB : Hid (Below P w w) := Below.refl P w
  clear h
  go_enter Try.func34, Try.ntmps34
  go_wp2_with (first
    | (go_at_call 15; with_reducible refine (gramIn_objs _ _ rfl _).mono ?_; rintro e w1 ⟨rfl, b1⟩; have BB := Lib.hid (BB.out.trans (b1.mono (Nat.le_of_lt HP.out.lt))); have HP := Lib.hid (HP.out.below b1))
    | (go_at_call 35; refine (gramArg_any s k _ P _ HP.out).mono ?_; rintro e w1 ⟨rfl, HP, b1⟩; have BB := Lib.hid (BB.out.trans b1)))
  go_ret
  exact ⟨rfl, HP, BB.out⟩
theorem gramVisual_any (s : PsG) (k : Int) (P : Nat) (w : World) (h : IsP w P s) :
    Calls Try.prog 29 #[.pointer (some ⟨P, 0, none⟩), .int .i32 k] w (GivesPG P w (nextL (visL k) s)) := by
  have HP := Lib.hid h
  have BB : Hid (Below P w w) := Below.refl P w
  clear h
  unfold visL
  go_enter Try.func29, Try.ntmps29
  cases h1 : inS k vis8 with
  | true =>
    go_wp2_with (first
      | (go_at_call 15; with_reducible refine (gramIn_vis _ _ h1 _).mono ?_; rintro e w1 ⟨rfl, b1⟩; have BB := Lib.hid (BB.out.trans (b1.mono (Nat.le_of_lt HP.out.lt))); have HP := Lib.hid (HP.out.below b1)))
    go_ret
    exact ⟨rfl, HP.out, BB.out⟩
  | false =>
    cases h2 : inS k kinds8 with
    | true =>
      go_wp2_with (first
        | (go_at_call 15; with_reducible refine (gramIn_vis _ _ h1 _).mono ?_; rintro e w1 ⟨rfl, b1⟩; have BB := Lib.hid (BB.out.trans (b1.mono (Nat.le_of_lt HP.out.lt))); have HP := Lib.hid (HP.out.below b1))
        | (go_at_call 15; with_reducible refine (gramIn_kinds _ _ h2 _).mono ?_; rintro e w1 ⟨rfl, b1⟩; have BB := Lib.hid (BB.out.trans (b1.mono (Nat.le_of_lt HP.out.lt))); have HP := Lib.hid (HP.out.below b1))
        | (go_at_call 20; refine (gramGoOn_any s .object P _ HP.out).mono ?_; rintro e w1 ⟨rfl, HP, b1⟩; have BB := Lib.hid (BB.out.trans b1)))
      go_ret
      exact ⟨rfl, HP, BB.out⟩
    | false =>
      rw [if_neg (by decide), if_neg (by decide)]
      go_wp2_with (first
        | (go_at_call 15; with_reducible refine (gramIn_vis _ _ h1 _).mono ?_; rintro e w1 ⟨rfl, b1⟩; have BB := Lib.hid (BB.out.trans (b1.mono (Nat.le_of_lt HP.out.lt))); have HP := Lib.hid (HP.out.below b1))
        | (go_at_call 15; with_reducible refine (gramIn_kinds _ _ h2 _).mono ?_; rintro e w1 ⟨rfl, b1⟩; have BB := Lib.hid (BB.out.trans (b1.mono (Nat.le_of_lt HP.out.lt))); have HP := Lib.hid (HP.out.below b1))
        | (go_at_call 33; refine (gramMotion2_any s k P _ HP.out).mono ?_; rintro e w1 ⟨rfl, HP, b1⟩; have BB := Lib.hid (BB.out.trans b1)))
      go_ret
      exact ⟨rfl, HP, BB.out⟩
end Go.Proofs.Ytbfedakncdodcaa

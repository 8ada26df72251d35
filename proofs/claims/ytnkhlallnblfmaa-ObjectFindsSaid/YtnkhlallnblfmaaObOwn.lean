/-
  The landed package object's Find answers as the document says: layer 13.
-/
import Derived.Test.YtnkhlallnblfmaaM13o
import Derived.Test.YtnkhlallnblfmaaObSays
namespace Go.Proofs.Ytnkhlallnblfmaa
open Go.RowKit

def pairO (S : List UInt8) (a : Nat) (key : Int) : Option RwO :=
  if inS key [40, 41, 98] = true then aboutM (bracketsM S 40 41) a
  else if inS key [91, 93] = true then aboutM (bracketsM S 91 93) a
  else if inS key [123, 125, 66] = true then aboutM (bracketsM S 123 125) a
  else if key = 34 ∨ key = 39 then quoteAt (quotesM S (ofL S (a : Nat) : Nat) (UInt8.ofNat key.toNat)) a
  else none
set_option maxHeartbeats 4000000 in
theorem obPair_any (S : List UInt8) (hS : S.length ≤ 1000000) (a : Nat) (ha : a ≤ S.length) (k : Int) (w : World) :
    Calls Try.prog 16 #[.string ⟨S.toArray⟩, .int .i64 (a : Nat), .int .i32 k] w (GivesIIB w (twoO (pairO S a k))) := by
  have HB1 := Lib.hid (obBrackets_any S hS a ha 40 41 w)
  have HB2 := Lib.hid (obBrackets_any S hS a ha 91 93 w)
  have HB3 := Lib.hid (obBrackets_any S hS a ha 123 125 w)
  have HQ1 := Lib.hid (obQuotes_any S hS a 34 w)
  have HQ2 := Lib.hid (obQuotes_any S hS a 39 w)
  obtain ⟨v, hv⟩ : ∃ v, pairO S a k = v := ⟨_, rfl⟩
  rw [hv]
  have HV := Lib.hid hv
  clear hv
  by_cases h40 : k = 40
  · subst h40
    have HE : Hid (aboutM (bracketsM S 40 41) a = v) := HV.out
    clear HV
    generalize aboutM (bracketsM S 40 41) a = r at *
    have hr : r = v := HE.out
    subst hr
    go_enter Try.func16, Try.ntmps16
    go_wp2_with (go_at_call 33; refine HB1.out.mono ?_; rintro e w1 ⟨rfl, b1⟩)
    go_ret3
    exact ⟨rfl, b1⟩
  have e40 : (k == 40) = false := by rw [beq_eq_false_iff_ne]; exact h40
  by_cases h41 : k = 41
  · subst h41
    have HE : Hid (aboutM (bracketsM S 40 41) a = v) := HV.out
    clear HV
    generalize aboutM (bracketsM S 40 41) a = r at *
    have hr : r = v := HE.out
    subst hr
    go_enter Try.func16, Try.ntmps16
    go_wp2_with (go_at_call 33; refine HB1.out.mono ?_; rintro e w1 ⟨rfl, b1⟩)
    go_ret3
    exact ⟨rfl, b1⟩
  have e41 : (k == 41) = false := by rw [beq_eq_false_iff_ne]; exact h41
  by_cases h98 : k = 98
  · subst h98
    have HE : Hid (aboutM (bracketsM S 40 41) a = v) := HV.out
    clear HV
    generalize aboutM (bracketsM S 40 41) a = r at *
    have hr : r = v := HE.out
    subst hr
    go_enter Try.func16, Try.ntmps16
    go_wp2_with (go_at_call 33; refine HB1.out.mono ?_; rintro e w1 ⟨rfl, b1⟩)
    go_ret3
    exact ⟨rfl, b1⟩
  have e98 : (k == 98) = false := by rw [beq_eq_false_iff_ne]; exact h98
  by_cases h91 : k = 91
  · subst h91
    have HE : Hid (aboutM (bracketsM S 91 93) a = v) := HV.out
    clear HV
    generalize aboutM (bracketsM S 91 93) a = r at *
    have hr : r = v := HE.out
    subst hr
    go_enter Try.func16, Try.ntmps16
    go_wp2_with (go_at_call 33; refine HB2.out.mono ?_; rintro e w1 ⟨rfl, b1⟩)
    go_ret3
    exact ⟨rfl, b1⟩
  have e91 : (k == 91) = false := by rw [beq_eq_false_iff_ne]; exact h91
  by_cases h93 : k = 93
  · subst h93
    have HE : Hid (aboutM (bracketsM S 91 93) a = v) := HV.out
    clear HV
    generalize aboutM (bracketsM S 91 93) a = r at *
    have hr : r = v := HE.out
    subst hr
    go_enter Try.func16, Try.ntmps16
    go_wp2_with (go_at_call 33; refine HB2.out.mono ?_; rintro e w1 ⟨rfl, b1⟩)
    go_ret3
    exact ⟨rfl, b1⟩
  have e93 : (k == 93) = false := by rw [beq_eq_false_iff_ne]; exact h93
  by_cases h123 : k = 123
  · subst h123
    have HE : Hid (aboutM (bracketsM S 123 125) a = v) := HV.out
    clear HV
    generalize aboutM (bracketsM S 123 125) a = r at *
    have hr : r = v := HE.out
    subst hr
    go_enter Try.func16, Try.ntmps16
    go_wp2_with (go_at_call 33; refine HB3.out.mono ?_; rintro e w1 ⟨rfl, b1⟩)
    go_ret3
    exact ⟨rfl, b1⟩
  have e123 : (k == 123) = false := by rw [beq_eq_false_iff_ne]; exact h123
  by_cases h125 : k = 125
  · subst h125
    have HE : Hid (aboutM (bracketsM S 123 125) a = v) := HV.out
    clear HV
    generalize aboutM (bracketsM S 123 125) a = r at *
    have hr : r = v := HE.out
    subst hr
    go_enter Try.func16, Try.ntmps16
    go_wp2_with (go_at_call 33; refine HB3.out.mono ?_; rintro e w1 ⟨rfl, b1⟩)
    go_ret3
    exact ⟨rfl, b1⟩
  have e125 : (k == 125) = false := by rw [beq_eq_false_iff_ne]; exact h125
  by_cases h66 : k = 66
  · subst h66
    have HE : Hid (aboutM (bracketsM S 123 125) a = v) := HV.out
    clear HV
    generalize aboutM (bracketsM S 123 125) a = r at *
    have hr : r = v := HE.out
    subst hr
    go_enter Try.func16, Try.ntmps16
    go_wp2_with (go_at_call 33; refine HB3.out.mono ?_; rintro e w1 ⟨rfl, b1⟩)
    go_ret3
    exact ⟨rfl, b1⟩
  have e66 : (k == 66) = false := by rw [beq_eq_false_iff_ne]; exact h66
  by_cases h34 : k = 34
  · subst h34
    have HE : Hid (quoteAt (quotesM S (ofL S (a : Nat) : Nat) 34) a = v) := HV.out
    clear HV
    generalize quoteAt (quotesM S (ofL S (a : Nat) : Nat) 34) a = r at *
    have hr : r = v := HE.out
    subst hr
    go_enter Try.func16, Try.ntmps16
    go_wp2_with (go_at_call 34; refine HQ1.out.mono ?_; rintro e w1 ⟨rfl, b1⟩)
    go_ret3
    exact ⟨rfl, b1⟩
  have e34 : (k == 34) = false := by rw [beq_eq_false_iff_ne]; exact h34
  by_cases h39 : k = 39
  · subst h39
    have HE : Hid (quoteAt (quotesM S (ofL S (a : Nat) : Nat) 39) a = v) := HV.out
    clear HV
    generalize quoteAt (quotesM S (ofL S (a : Nat) : Nat) 39) a = r at *
    have hr : r = v := HE.out
    subst hr
    go_enter Try.func16, Try.ntmps16
    go_wp2_with (go_at_call 34; refine HQ2.out.mono ?_; rintro e w1 ⟨rfl, b1⟩)
    go_ret3
    exact ⟨rfl, b1⟩
  have e39 : (k == 39) = false := by rw [beq_eq_false_iff_ne]; exact h39
  have HE : Hid (none = v) := by
    have := HV.out
    unfold pairO at this
    rw [if_neg (by simp [inS]; omega), if_neg (by simp [inS]; omega), if_neg (by simp [inS]; omega), if_neg (by omega)] at this
    exact this
  clear HV HB1 HB2 HB3 HQ1 HQ2 h40 h41 h98 h91 h93 h123 h125 h66 h34 h39
  go_enter Try.func16, Try.ntmps16
  go_wp2_with fail
  go_ret3
  exact ⟨by rw [← HE.out]; rfl, Below.refl _ _⟩
theorem findO_is (S : List UInt8) (p : Int) (around : Bool) (key : Int) : findO S p around key =
    if alignM S p = S.length then none else if key = 119 then some (owordM (rowsM S) (alignM S p) around) else betweenM (pairO S (alignM S p) key) around := by
  unfold findO pairO
  split
  · rfl
  split
  · rfl
  split
  · rfl
  split
  · rfl
  split
  · rfl
  split
  · rfl
  · rfl
set_option maxHeartbeats 4000000 in
theorem obFind_any (S : List UInt8) (hS : S.length ≤ 1000000) (p : Int) (around : Bool) (key : Int) (w : World) :
    Calls Try.prog 8 #[.string ⟨S.toArray⟩, .int .i64 p, .bool around, .int .i32 key] w (GivesIIB w (findO S p around key)) := by
  obtain ⟨v, hv⟩ : ∃ v, findO S p around key = v := ⟨_, rfl⟩
  rw [hv]
  rw [findO_is] at hv
  have hal := alignM_le S p
  have hai : ∃ i, i ≤ (chars S).length ∧ alignM S p = atM S i := ⟨whichM (chars S) p, (which_is _ _).le, rfl⟩
  have HA := Lib.hid (obAlign_any S hS p)
  obtain ⟨a, ha⟩ : ∃ a, alignM S p = a := ⟨_, rfl⟩
  rw [ha] at hv hal hai HA
  clear ha
  by_cases he : a = S.length
  · have HE : Hid (none = v) := by rwa [if_pos he] at hv
    have he' : ((a : Int) == (S.length : Int)) = true := by rw [beq_iff_eq]; omega
    clear he hv hai
    go_enter Try.func8, Try.ntmps8
    go_wp2_with (go_at_call 14; refine (HA.out _).mono ?_; rintro e w1 ⟨rfl, b1⟩)
    go_ret3
    exact ⟨by rw [← HE.out]; rfl, b1⟩
  have he' : ((a : Int) == (S.length : Int)) = false := by rw [beq_eq_false_iff_ne]; omega
  rw [if_neg he] at hv
  by_cases h1 : key = 119
  · subst h1
    rw [if_pos rfl] at hv
    obtain ⟨i, hi, rfl⟩ := hai
    have hi2 : i < (chars S).length := by
      rcases Nat.lt_or_ge i (chars S).length with h | h
      · exact h
      · exact absurd (by rw [show i = (chars S).length by omega]; exact obAt_last S) he
    have HW := Lib.hid (obWord_any S hS i hi2 around)
    have HE := Lib.hid hv
    clear hv he hi hi2
    generalize owordM (rowsM S) (atM S i) around = r at *
    generalize atM S i = a at *
    go_enter Try.func8, Try.ntmps8
    go_wp2_with (first
      | (go_at_call 14; refine (HA.out _).mono ?_; rintro e w1 ⟨rfl, b1⟩)
      | (go_at_call 15; refine (HW.out _).mono ?_; rintro e w2 ⟨rfl, b2⟩; replace b2 := b1.trans (b2.mono b1.size)))
    go_ret3
    exact ⟨by rw [← HE.out]; rfl, b2⟩
  have e1 : (key == 119) = false := by rw [beq_eq_false_iff_ne]; exact h1
  rw [if_neg h1] at hv
  have HP := Lib.hid (obPair_any S hS a hal key)
  have HI : Hid (∀ x, pairO S a key = some x → x.1 ≤ S.length ∧ x.2.1 ≤ S.length) := by
    show ∀ x, _
    intro x hx
    unfold pairO at hx
    split at hx
    · exact ⟨(brackets_in S 40 41 x (about_mem hx)).1, (brackets_in S 40 41 x (about_mem hx)).2.1⟩
    split at hx
    · exact ⟨(brackets_in S 91 93 x (about_mem hx)).1, (brackets_in S 91 93 x (about_mem hx)).2.1⟩
    split at hx
    · exact ⟨(brackets_in S 123 125 x (about_mem hx)).1, (brackets_in S 123 125 x (about_mem hx)).2.1⟩
    split at hx
    · exact ⟨((quotes_in S _ _).1 x (quote_mem hx)).1, ((quotes_in S _ _).1 x (quote_mem hx)).2.1⟩
    · cases hx
  have HE := Lib.hid hv
  clear hv h1 he hai
  generalize pairO S a key = r at *
  rcases r with _ | ⟨x, y, z⟩
  · have hr : twoO none = none := rfl
    rw [hr] at HP
    go_enter Try.func8, Try.ntmps8
    go_wp2_with (first
      | (go_at_call 14; refine (HA.out _).mono ?_; rintro e w1 ⟨rfl, b1⟩)
      | (go_at_call 16; refine (HP.out _).mono ?_; rintro e w2 ⟨rfl, b2⟩; replace b2 := b1.trans (b2.mono b1.size)))
    go_ret3
    exact ⟨by rw [← HE.out]; rfl, b2⟩
  · obtain ⟨hx, hy⟩ := HI.out _ rfl
    dsimp only at hx hy
    have hr : twoO (some (x, y, z)) = some (x, y) := rfl
    rw [hr] at HP
    clear HI hr
    cases around with
    | true =>
      go_enter Try.func8, Try.ntmps8
      go_wp2_with (first
        | (go_at_call 14; refine (HA.out _).mono ?_; rintro e w1 ⟨rfl, b1⟩)
        | (go_at_call 16; refine (HP.out _).mono ?_; rintro e w2 ⟨rfl, b2⟩; replace b2 := b1.trans (b2.mono b1.size)))
      go_ret3
      exact ⟨by rw [← HE.out]; rfl, b2⟩
    | false =>
      go_enter Try.func8, Try.ntmps8
      go_wp2_with (first
        | (go_at_call 14; refine (HA.out _).mono ?_; rintro e w1 ⟨rfl, b1⟩)
        | (go_at_call 16; refine (HP.out _).mono ?_; rintro e w2 ⟨rfl, b2⟩; replace b2 := b1.trans (b2.mono b1.size)))
      go_ret3
      exact ⟨by rw [← HE.out]; rfl, b2⟩
theorem objectSays (w : World) : ObjectSays w where
  find := fun S p around k w' _ hS _ _ => obFind_any S (by omega) p around k w'
end Go.Proofs.Ytnkhlallnblfmaa

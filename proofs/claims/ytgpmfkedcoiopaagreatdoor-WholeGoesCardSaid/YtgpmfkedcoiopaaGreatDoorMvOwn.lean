/-
  The landed package move says what the document's does: layer 12.
-/
import Derived.Test.YtgpmfkedcoiopaaGreatDoorM12m
import Derived.Test.YtgpmfkedcoiopaaGreatDoorMvSays
namespace Go.Proofs.YtgpmfkedcoiopaaGreatDoor
open Go.RowKit
set_option maxRecDepth 100000

/-- what To makes of what goal answers -/
def toR (a : Nat) (key : Int) (V KD : Nat) (B : Bool) : Option (Nat × Nat) := if B = false then none else if KD = 0 ∧ V = a then none else if key = 101 ∧ V ≤ a then none else some (V, KD)
def GoalSays (x : ScM) (key g c : Int) (V KD : Nat) (B : Bool) : Prop := ∀ (P : Nat) (w : World), IsSc w P x → Calls Tryz.prog 94 #[.pointer (some ⟨P, 0, none⟩), .agg #[.int .i32 key, .int .i32 g, .int .i64 c]] w fun e w' => e = .returned (.tuple #[.int .i64 (V : Nat), .int .i64 (KD : Nat), .bool B]) ∧ Below w.heap.size w w'
set_option maxHeartbeats 4000000 in
theorem mvTo_of (S : List UInt8) (hS : S.length ≤ 1000000) (p key g c : Int) (hc : -9223372036854775808 ≤ c ∧ c ≤ 9223372036854775807) (V KD : Nat) (B : Bool) (hg : GoalSays (scanX S p g c) key g c V KD B) (w : World) :
    Calls Tryz.prog 36 #[.string ⟨S.toArray⟩, .int .i64 p, .agg #[.int .i32 key, .int .i32 g, .int .i64 c]] w (GivesIIB w (toR (alignM S p) key V KD B)) := by
  have HSc := Lib.hid (fun w => mvScan_any S hS p key g c hc w)
  have HG := Lib.hid hg
  have HA : Hid ((scanX S p g c).a = alignM S p) := rfl
  generalize scanX S p g c = x at *
  generalize alignM S p = a at *
  clear hg
  have HV : Hid (toR a key V KD B = if B = false then none else if KD = 0 ∧ V = a then none else if key = 101 ∧ V ≤ a then none else some (V, KD)) := rfl
  generalize toR a key V KD B = r at *
  go_enter Tryz.func36, Tryz.ntmps36
  go_upto_region 1 with fail
  have B0 := Lib.hid ((Below.refl w.heap.size w).alloc (Nat.le_refl _) (.cells #[.int .i32 key, .int .i32 g, .int .i64 c] 73))
  have C0 := Lib.hid (Blk.new w 73 (motC key g c))
  change Hid (Blk (w.alloc (.cells #[.int .i32 key, .int .i32 g, .int .i64 c] 73)) w.heap.size 73 (motC key g c)) at C0
  generalize w.alloc (.cells #[.int .i32 key, .int .i32 g, .int .i64 c] 73) = wb at *
  have HM : Hid (∀ wz, Below wb.heap.size wb wz → wz.cell? ⟨w.heap.size, 0, none⟩ = some (.int .i32 key) ∧ wz.cell? ⟨w.heap.size, 1, none⟩ = some (.int .i32 g) ∧ wz.cell? ⟨w.heap.size, 2, none⟩ = some (.int .i64 c)) := fun wz hb => mot_cells (C0.out.below hb C0.out.lt)
  obtain ⟨m0, m1, m2⟩ := HM.out _ (Below.refl _ _)
  clear C0
  go_upto_region 2 with (go_at_call 93; refine (HSc.out _).mono ?_; rintro e w1 ⟨P, rfl, HX, b1⟩)
  have HXX := Lib.hid HX
  have B1 := Lib.hid b1
  clear m0 m1 m2 HX b1
  obtain ⟨m0, m1, m2⟩ := HM.out _ B1.out
  go_upto_region 3 with (go_at_call 94; refine (HG.out _ _ HXX.out).mono ?_; rintro e w2 ⟨rfl, b2⟩)
  have HX2 := Lib.hid (HXX.out.below b2)
  have B2 := Lib.hid (B1.out.trans (b2.mono B1.out.size))
  have B3 := Lib.hid (B0.out.trans (B2.out.mono B0.out.size))
  clear m0 m1 m2 b2 HXX B1
  have y1 : w2.cell? ⟨P, 1, none⟩ = some (.int .i64 (a : Nat)) := by rw [← HA.out]; exact HX2.out.a
  obtain ⟨m0, m1, m2⟩ := HM.out _ B2.out
  clear HX2 B2 HSc HG HM HA
  cases hB : B with
  | false =>
    have HE : Hid (r = none) := by rw [Hid, HV.out, hB]; rfl
    clear HV hB
    go_wp2_with fail
    go_ret3
    exact ⟨by rw [HE.out]; rfl, B3.out⟩
  | true =>
    have HV1 : Hid (r = if KD = 0 ∧ V = a then none else if key = 101 ∧ V ≤ a then none else some (V, KD)) := by rw [Hid, HV.out, hB]; rfl
    clear HV hB
    by_cases h1 : KD = 0 ∧ V = a
    · have HE : Hid (r = none) := HV1.out.trans (if_pos h1)
      have g1 : ((KD : Int) == 0) = true := by rw [beq_iff_eq]; omega
      have g2 : ((V : Int) == (a : Int)) = true := by rw [beq_iff_eq]; omega
      clear HV1 h1
      go_wp2_with fail
      go_ret3
      exact ⟨by rw [HE.out]; rfl, B3.out⟩
    · have HV2 := Lib.hid (HV1.out.trans (if_neg h1))
      clear HV1
      by_cases h2 : key = 101 ∧ V ≤ a
      · have HE : Hid (r = none) := HV2.out.trans (if_pos h2)
        have g3 : (key == 101) = true := by rw [beq_iff_eq]; exact h2.1
        have g4 : decide ((V : Int) ≤ (a : Int)) = true := decide_eq_true (by omega)
        have g5 : decide (V ≤ a) = true := decide_eq_true (by omega)
        clear HV2
        by_cases h3 : KD = 0
        · have g1 : ((KD : Int) == 0) = true := by rw [beq_iff_eq]; omega
          have g2 : ((V : Int) == (a : Int)) = false := by rw [beq_eq_false_iff_ne]; omega
          clear h1 h2 h3
          go_wp2_with fail
          go_ret3
          exact ⟨by rw [HE.out]; rfl, B3.out⟩
        · have g1 : ((KD : Int) == 0) = false := by rw [beq_eq_false_iff_ne]; omega
          clear h1 h2 h3
          go_wp2_with fail
          go_ret3
          exact ⟨by rw [HE.out]; rfl, B3.out⟩
      · have HE : Hid (r = some (V, KD)) := HV2.out.trans (if_neg h2)
        clear HV2
        by_cases h4 : key = 101
        · have g3 : (key == 101) = true := by rw [beq_iff_eq]; exact h4
          have g4 : decide ((V : Int) ≤ (a : Int)) = false := decide_eq_false (by omega)
          have g5 : decide (V ≤ a) = false := decide_eq_false (by omega)
          clear h2 h4
          by_cases h3 : KD = 0
          · have g1 : ((KD : Int) == 0) = true := by rw [beq_iff_eq]; omega
            have g2 : ((V : Int) == (a : Int)) = false := by rw [beq_eq_false_iff_ne]; omega
            clear h1 h3
            go_wp2_with fail
            go_ret3
            exact ⟨by rw [HE.out]; rfl, B3.out⟩
          · have g1 : ((KD : Int) == 0) = false := by rw [beq_eq_false_iff_ne]; omega
            clear h1 h3
            go_wp2_with fail
            go_ret3
            exact ⟨by rw [HE.out]; rfl, B3.out⟩
        · have g3 : (key == 101) = false := by rw [beq_eq_false_iff_ne]; exact h4
          clear h2 h4
          by_cases h3 : KD = 0
          · have g1 : ((KD : Int) == 0) = true := by rw [beq_iff_eq]; omega
            have g2 : ((V : Int) == (a : Int)) = false := by rw [beq_eq_false_iff_ne]; omega
            clear h1 h3
            go_wp2_with fail
            go_ret3
            exact ⟨by rw [HE.out]; rfl, B3.out⟩
          · have g1 : ((KD : Int) == 0) = false := by rw [beq_eq_false_iff_ne]; omega
            clear h1 h3
            go_wp2_with fail
            go_ret3
            exact ⟨by rw [HE.out]; rfl, B3.out⟩

theorem scan_ok (S : List UInt8) (hS : S.length ≤ 1000000) (p g c : Int) : ScOk (scanX S p g c) where
  len := hS
  sign := by
    obtain ⟨i, hi, ha⟩ := Beg.alignM S p
    exact ⟨i, hi, ha⟩
  many := many_pos c
  to_ := by
    obtain ⟨q, h1, h2, h3, h4, h5⟩ := of_bounds (alignM_le S p)
    show (boundsL S (ofL S (alignM S p : Nat) : Nat)).1.2 ≤ S.length
    rw [h1, h3]
    exact end_le h2
theorem scan_q (S : List UInt8) (hS : S.length ≤ 1000000) (p g c : Int) : (scanX S p g c).q ≤ 1000001 := by
  have h1 := ofL_le S (alignM S p : Nat)
  have h2 := countL_le S
  show ofL S (alignM S p : Nat) ≤ 1000001
  omega
theorem toR_excl (a : Nat) (key : Int) (hk : key ≠ 101) (V : Nat) : toR a key V 0 true = exclM a (some V) := by
  unfold toR
  show (if true = false then none else if 0 = 0 ∧ V = a then none else if key = 101 ∧ V ≤ a then none else some (V, 0)) = if V = a then none else some (V, 0)
  rw [if_neg (by decide)]
  by_cases h : V = a
  · rw [if_pos ⟨rfl, h⟩, if_pos h]
  · rw [if_neg (fun e => h e.2), if_neg h, if_neg (fun e => hk e.1)]
theorem toR_exclO (a : Nat) (key : Int) (hk : key ≠ 101) (r : Option Nat) (V : Nat) (hV : ∀ x, r = some x → V = x) : toR a key V 0 r.isSome = exclM a r := by
  cases r with
  | none => rfl
  | some x =>
    rw [hV x rfl]
    exact toR_excl a key hk x
theorem toR_other (a : Nat) (key : Int) (hk : key ≠ 101) (k : Nat) (hk0 : k ≠ 0) (r : Option Nat) (V : Nat) (hV : ∀ x, r = some x → V = x) : toR a key V k r.isSome = r.map fun x => (x, k) := by
  cases r with
  | none => rfl
  | some x =>
    rw [hV x rfl]
    unfold toR
    rw [if_neg (by simp), if_neg (fun e => hk0 e.1), if_neg (fun e => hk e.1)]
    rfl
theorem rune_neg {S : List UInt8} {g : Int} (hg : g < 0) (j : Nat) : ((((chars S).getD j (0, 0)).1 : Int) == g) = false := by rw [beq_eq_false_iff_ne]; omega
theorem on_never {S : List UInt8} {Q : Nat → Bool} (hQ : ∀ j, Q j = false) (lim a n : Nat) (hn : 1 ≤ n) : onM S Q lim a n = none := by
  have : onQ S Q lim = fun _ => false := funext fun j => by unfold onQ; rw [hQ j]; rfl
  unfold onM
  rw [show (fun j => Q j && decide (atM S j < lim)) = onQ S Q lim from rfl, this, places_none (Nat.zero_le _) fun _ _ _ => rfl]
  exact behindM_none (by simp [placesTo]; omega)
theorem back_never {S : List UInt8} {Q : Nat → Bool} (hQ : ∀ j, Q j = false) (lim a n : Nat) (hn : 1 ≤ n) : backM S Q lim a n = none := by
  have : backQ S Q lim = fun _ => false := funext fun j => by unfold backQ; rw [hQ j]; rfl
  unfold backM
  rw [show (fun j => Q j && decide (lim < atM S (j + 1))) = backQ S Q lim from rfl, this, places_none (Nat.zero_le _) fun _ _ _ => rfl]
  exact aheadM_none (by simp [placesTo]; omega)
theorem sought_q {S : List UInt8} {g : Int} (hg : ¬ g < 0) (j : Nat) : ((((chars S).getD j (0, 0)).1 : Int) == g) = (decide (g < 0) || decide ((((chars S).getD j (0, 0)).1 : Int) = g)) := by
  rw [decide_eq_false hg, Bool.false_or]
  rfl
section
variable (S : List UInt8) (hS : S.length ≤ 1000000) (p g c : Int) (hc : -9223372036854775808 ≤ c ∧ c ≤ 9223372036854775807) (w : World)
include hS hc
theorem mvTo_excl (key : Int) (hk : key ≠ 101) (V : Nat) (hg : GoalSays (scanX S p g c) key g c V 0 true) (h : toM S p key g c = exclM (alignM S p) (some V)) :
    Calls Tryz.prog 36 #[.string ⟨S.toArray⟩, .int .i64 p, .agg #[.int .i32 key, .int .i32 g, .int .i64 c]] w (GivesIIB w (toM S p key g c)) := by
  rw [h, ← toR_excl _ key hk]
  exact mvTo_of S hS p key g c hc V 0 true hg w
theorem mvTo_exclO (key : Int) (hk : key ≠ 101) (r : Option Nat) (V : Nat) (hV : ∀ x, r = some x → V = x) (hg : GoalSays (scanX S p g c) key g c V 0 r.isSome) (h : toM S p key g c = exclM (alignM S p) r) :
    Calls Tryz.prog 36 #[.string ⟨S.toArray⟩, .int .i64 p, .agg #[.int .i32 key, .int .i32 g, .int .i64 c]] w (GivesIIB w (toM S p key g c)) := by
  rw [h, ← toR_exclO _ key hk r V hV]
  exact mvTo_of S hS p key g c hc V 0 _ hg w
theorem mvTo_other (key : Int) (hk : key ≠ 101) (k : Nat) (hk0 : k ≠ 0) (r : Option Nat) (V : Nat) (hV : ∀ x, r = some x → V = x) (hg : GoalSays (scanX S p g c) key g c V k r.isSome) (h : toM S p key g c = r.map fun x => (x, k)) :
    Calls Tryz.prog 36 #[.string ⟨S.toArray⟩, .int .i64 p, .agg #[.int .i32 key, .int .i32 g, .int .i64 c]] w (GivesIIB w (toM S p key g c)) := by
  rw [h, ← toR_other _ key hk k hk0 r V hV]
  exact mvTo_of S hS p key g c hc V k _ hg w
theorem mvTo_any : ∀ key : Int, Calls Tryz.prog 36 #[.string ⟨S.toArray⟩, .int .i64 p, .agg #[.int .i32 key, .int .i32 g, .int .i64 c]] w (GivesIIB w (toM S p key g c)) := by
  intro key
  have k := scan_ok S hS p g c
  have hq := scan_q S hS p g c
  have ha := alignM_le S p
  have hn := many_pos c
  have HE : ∀ j, j < (chars S).length → (fun _ : Nat => true) j = (decide ((-1 : Int) < 0) || decide ((((chars S).getD j (0, 0)).1 : Int) = -1)) := fun j _ => rfl
  by_cases h104 : key = 104
  · subst h104
    refine mvTo_excl S hS p g c hc w 104 (by decide) _ (fun P w h => mvGoal_h _ k P g c hc w h) ?_
    rw [toM_h, ← back_line ha (-1) _ HE]
    rfl
  by_cases h108 : key = 108
  · subst h108
    refine mvTo_excl S hS p g c hc w 108 (by decide) _ (fun P w h => mvGoal_l _ k P g c hc w h) ?_
    rw [toM_l, ← on_line ha (-1) _ HE]
    rfl
  by_cases h119 : key = 119
  · subst h119
    refine mvTo_excl S hS p g c hc w 119 (by decide) _ (fun P w h => mvGoal_w _ k P g c hc w h) ?_
    rw [toM_w, ← on_begs]
    rfl
  by_cases h98 : key = 98
  · subst h98
    refine mvTo_excl S hS p g c hc w 98 (by decide) _ (fun P w h => mvGoal_b _ k P g c hc w h) ?_
    rw [toM_b, ← back_begs]
    rfl
  by_cases h125 : key = 125
  · subst h125
    refine mvTo_excl S hS p g c hc w 125 (by decide) _ (fun P w h => mvGoal_rb _ k P g c hc w h) ?_
    rw [toM_rb, ← on_empt ha]
    rfl
  by_cases h123 : key = 123
  · subst h123
    refine mvTo_excl S hS p g c hc w 123 (by decide) _ (fun P w h => mvGoal_lb _ k P g c hc w h) ?_
    rw [toM_lb, ← back_empt ha]
    rfl
  by_cases h101 : key = 101
  · subst h101
    have he : toM S p 101 g c = toR (alignM S p) 101 ((onM S (endQ (chars S)) (prevM S (S.length : Nat)) (alignM S p) (manyM c)).getD (prevM S (S.length : Nat))) 1 true := by
      rw [toM_e, ← on_ends]
      generalize (onM S (endQ (chars S)) (prevM S (S.length : Nat)) (alignM S p) (manyM c)).getD (prevM S (S.length : Nat)) = v
      show _ = if true = false then none else if 1 = 0 ∧ v = alignM S p then none else if (101 : Int) = 101 ∧ v ≤ alignM S p then none else some (v, 1)
      by_cases h : alignM S p < v
      · rw [if_pos h, if_neg (by decide), if_neg (fun e => absurd e.1 (by decide)), if_neg (by omega)]
      · rw [if_neg h, if_neg (by decide), if_neg (fun e => absurd e.1 (by decide)), if_pos ⟨rfl, by omega⟩]
    rw [he]
    exact mvTo_of S hS p 101 g c hc _ 1 true (fun P w h => mvGoal_e _ k P g c hc w h) w
  by_cases h48 : key = 48
  · subst h48
    exact mvTo_excl S hS p g c hc w 48 (by decide) _ (fun P w h => mvGoal_z _ k P g c hc w h) rfl
  by_cases h94 : key = 94
  · subst h94
    exact mvTo_excl S hS p g c hc w 94 (by decide) _ (fun P w h => mvGoal_c _ k P g c hc w h) rfl
  by_cases h36 : key = 36
  · subst h36
    have hsd : toM S p 36 g c = exclM (alignM S p) (if ((ofL S (alignM S p : Nat) : Nat) : Int) + (manyM c : Nat) - 1 < (countL S : Int) then some (boundsL S (((ofL S (alignM S p : Nat) : Nat) : Int) + (manyM c : Nat) - 1)).1.2 else none) := rfl
    by_cases hlt : ((ofL S (alignM S p : Nat) : Nat) : Int) + (manyM c : Nat) - 1 < (countL S : Int)
    · rw [if_pos hlt] at hsd
      refine mvTo_excl S hS p g c hc w 36 (by decide) _ (fun P w h => ?_) hsd
      have := mvGoal_d _ k P g c hc w h hq
      have hz : ((boundsL S (((ofL S (alignM S p : Nat) : Nat) : Int) + (manyM c : Nat) - 1)).2 : Int) = 0 := by
        obtain ⟨m, hm⟩ : ∃ m : Nat, ((ofL S (alignM S p : Nat) : Nat) : Int) + (manyM c : Nat) - 1 = (m : Int) := ⟨(((ofL S (alignM S p : Nat) : Nat) : Int) + (manyM c : Nat) - 1).toNat, by omega⟩
        rw [hm, boundsL_nat (by omega)]
        rfl
      have e : (scanX S p g c).q = ofL S (alignM S p : Nat) := rfl
      have e2 : (scanX S p g c).n = manyM c := rfl
      have e3 : (scanX S p g c).s = S := rfl
      rw [e, e2, e3, hz] at this
      exact this
    · rw [if_neg hlt] at hsd
      rw [hsd]
      have hz := boundsL_out (S := S) (n := ((ofL S (alignM S p : Nat) : Nat) : Int) + (manyM c : Nat) - 1) (fun h => hlt h.2)
      refine mvTo_of S hS p 36 g c hc 0 0 false (fun P w h => ?_) w
      have := mvGoal_d _ k P g c hc w h hq
      have e : (scanX S p g c).q = ofL S (alignM S p : Nat) := rfl
      have e2 : (scanX S p g c).n = manyM c := rfl
      have e3 : (scanX S p g c).s = S := rfl
      rw [e, e2, e3, hz] at this
      exact this
  by_cases h106 : key = 106
  · subst h106
    refine mvTo_other S hS p g c hc w 106 (by decide) 2 (by decide) (inLineR (scanX S p g c) (((scanX S p g c).q : Int) + ((scanX S p g c).n : Int))) _ ?_ (fun P w h => mvGoal_j _ k P g c hc w h hq) rfl
    intro x hx
    rw [hx]
    rfl
  by_cases h107 : key = 107
  · subst h107
    refine mvTo_other S hS p g c hc w 107 (by decide) 2 (by decide) (inLineR (scanX S p g c) (((scanX S p g c).q : Int) - ((scanX S p g c).n : Int))) _ ?_ (fun P w h => mvGoal_k _ k P g c hc w h hq) rfl
    intro x hx
    rw [hx]
    rfl
  have hcp := countL_pos S
  by_cases h71 : key = 71
  · subst h71
    refine mvTo_other S hS p g c hc w 71 (by decide) 2 (by decide) (some (firstL S (meantM S 71 c : Nat))) _ (fun x hx => Option.some.inj hx) (fun P w h => mvGoal_G _ k P g c hc w h) ?_
    have hl : lineM S (alignM S p) (manyM c) 71 c = (meantM S 71 c : Nat) := by
      unfold lineM meantM
      by_cases h1 : 1 ≤ c
      · rw [if_neg (by decide), if_neg (by decide), if_neg (by omega), if_pos h1]
        by_cases h2 : (countL S : Int) < c
        · rw [if_pos (.inr h2)]; omega
        · rw [if_neg (by omega)]; omega
      · rw [if_neg (by decide), if_neg (by decide), if_neg (by omega), if_neg h1, if_pos rfl, if_pos (.inl (by omega))]; omega
    have hb : meantM S 71 c < countL S := by unfold meantM; split <;> (try split) <;> omega
    show (linesM S (alignM S p) (manyM c) 71 c).map (fun x => (x, 2)) = _
    unfold linesM
    rw [hl, if_pos ⟨by omega, by omega⟩, if_neg (by decide)]
  by_cases h103 : key = 103
  · subst h103
    refine mvTo_other S hS p g c hc w 103 (by decide) 2 (by decide) (some (firstL S (meantM S 103 c : Nat))) _ (fun x hx => Option.some.inj hx) (fun P w h => mvGoal_g _ k P g c hc w h) ?_
    have hl : lineM S (alignM S p) (manyM c) 103 c = (meantM S 103 c : Nat) := by
      unfold lineM meantM
      by_cases h1 : 1 ≤ c
      · rw [if_neg (by decide), if_neg (by decide), if_neg (by omega), if_pos h1]
        by_cases h2 : (countL S : Int) < c
        · rw [if_pos (.inr h2)]; omega
        · rw [if_neg (by omega)]; omega
      · rw [if_neg (by decide), if_neg (by decide), if_pos ⟨by omega, rfl⟩, if_neg h1, if_neg (by decide)]; rfl
    have hb : meantM S 103 c < countL S := by unfold meantM; split <;> (try split) <;> omega
    show (linesM S (alignM S p) (manyM c) 103 c).map (fun x => (x, 2)) = _
    unfold linesM
    rw [hl, if_pos ⟨by omega, by omega⟩, if_neg (by decide)]
  have hf : ∀ lim a n, 1 ≤ n → g < 0 → onM S (fun j => (((chars S).getD j (0, 0)).1 : Int) == g) lim a n = none := fun lim a n h1 h2 => on_never (rune_neg h2) lim a n h1
  have hF : ∀ lim a n, 1 ≤ n → g < 0 → backM S (fun j => (((chars S).getD j (0, 0)).1 : Int) == g) lim a n = none := fun lim a n h1 h2 => back_never (rune_neg h2) lim a n h1
  have hon : (if g < 0 then none else behindM (inLineM S (ofL S (alignM S p : Nat) : Nat) g) (alignM S p) (manyM c)) = onM S (fun j => (((chars S).getD j (0, 0)).1 : Int) == g) (boundsL S (ofL S (alignM S p : Nat) : Nat)).1.2 (alignM S p) (manyM c) := by
    by_cases h : g < 0
    · rw [if_pos h, hf _ _ _ hn.1 h]
    · rw [if_neg h, on_line ha g _ fun j _ => sought_q h j]
  have hbk : (if g < 0 then none else aheadM (inLineM S (ofL S (alignM S p : Nat) : Nat) g) (alignM S p) (manyM c)) = backM S (fun j => (((chars S).getD j (0, 0)).1 : Int) == g) (boundsL S (ofL S (alignM S p : Nat) : Nat)).1.1 (alignM S p) (manyM c) := by
    by_cases h : g < 0
    · rw [if_pos h, hF _ _ _ hn.1 h]
    · rw [if_neg h, back_line ha g _ fun j _ => sought_q h j]
  by_cases h102 : key = 102
  · subst h102
    refine mvTo_other S hS p g c hc w 102 (by decide) 1 (by decide) (onM S (fun j => (((chars S).getD j (0, 0)).1 : Int) == g) (boundsL S (ofL S (alignM S p : Nat) : Nat)).1.2 (alignM S p) (manyM c)) _ ?_ (fun P w h => mvGoal_ff _ k P g c hc w h) ?_
    · intro x hx
      show Option.getD (onM S (fun j => (((chars S).getD j (0, 0)).1 : Int) == g) (boundsL S (ofL S (alignM S p : Nat) : Nat)).1.2 (alignM S p) (manyM c)) _ = x
      rw [hx]
      rfl
    · rw [← hon]
      rfl
  by_cases h116 : key = 116
  · subst h116
    refine mvTo_other S hS p g c hc w 116 (by decide) 1 (by decide) ((onM S (fun j => (((chars S).getD j (0, 0)).1 : Int) == g) (boundsL S (ofL S (alignM S p : Nat) : Nat)).1.2 (alignM S p) (manyM c)).map fun x => prevM S (x : Nat)) (prevM S (((onM S (fun j => (((chars S).getD j (0, 0)).1 : Int) == g) (boundsL S (ofL S (alignM S p : Nat) : Nat)).1.2 (alignM S p) (manyM c)).getD (boundsL S (ofL S (alignM S p : Nat) : Nat)).1.2 : Nat) : Int)) ?_ (fun P w h => ?_) ?_
    · intro x hx
      rw [Option.map_eq_some_iff] at hx
      obtain ⟨y, hy, rfl⟩ := hx
      rw [hy]
      rfl
    · rw [Option.isSome_map]
      exact mvGoal_ft _ k P g c hc w h
    · rw [← hon]
      show inclM (findsM S (alignM S p) (manyM c) 116 g) = _
      unfold findsM inclM
      by_cases h : g < 0
      · rw [if_pos h, if_pos h]; rfl
      · rw [if_neg h, if_neg h, if_neg (by decide), if_pos rfl]
  by_cases h70 : key = 70
  · subst h70
    refine mvTo_exclO S hS p g c hc w 70 (by decide) (backM S (fun j => (((chars S).getD j (0, 0)).1 : Int) == g) (boundsL S (ofL S (alignM S p : Nat) : Nat)).1.1 (alignM S p) (manyM c)) _ ?_ (fun P w h => mvGoal_fF _ k P g c hc w h) ?_
    · intro x hx
      show Option.getD (backM S (fun j => (((chars S).getD j (0, 0)).1 : Int) == g) (boundsL S (ofL S (alignM S p : Nat) : Nat)).1.1 (alignM S p) (manyM c)) _ = x
      rw [hx]
      rfl
    · rw [← hbk]
      rfl
  by_cases h84 : key = 84
  · subst h84
    refine mvTo_exclO S hS p g c hc w 84 (by decide) ((backM S (fun j => (((chars S).getD j (0, 0)).1 : Int) == g) (boundsL S (ofL S (alignM S p : Nat) : Nat)).1.1 (alignM S p) (manyM c)).map fun x => nextM S (x : Nat)) (nextM S (((backM S (fun j => (((chars S).getD j (0, 0)).1 : Int) == g) (boundsL S (ofL S (alignM S p : Nat) : Nat)).1.1 (alignM S p) (manyM c)).getD (boundsL S (ofL S (alignM S p : Nat) : Nat)).1.1 : Nat) : Int)) ?_ (fun P w h => ?_) ?_
    · intro x hx
      rw [Option.map_eq_some_iff] at hx
      obtain ⟨y, hy, rfl⟩ := hx
      rw [hy]
      rfl
    · rw [Option.isSome_map]
      exact mvGoal_fT _ k P g c hc w h
    · rw [← hbk]
      show exclM (alignM S p) (findsM S (alignM S p) (manyM c) 84 g) = _
      unfold findsM
      by_cases h : g < 0
      · rw [if_pos h, if_pos h]; rfl
      · rw [if_neg h, if_neg h, if_neg (by decide), if_neg (by decide), if_pos rfl]
  have hno : toM S p key g c = none := by
    unfold toM
    rw [if_neg (by omega), if_neg (by omega), if_neg h101, if_neg (by omega), if_neg (by omega), if_neg (by omega)]
  rw [hno]
  exact mvTo_of S hS p key g c hc 0 0 false (fun P w h => mvGoal_no _ P key g c w h (by
    intro y hy
    simp only [List.mem_cons, List.not_mem_nil, or_false] at hy
    rcases hy with rfl | rfl | rfl | rfl | rfl | rfl | rfl | rfl | rfl | rfl | rfl | rfl | rfl | rfl | rfl | rfl | rfl | rfl <;> assumption)) w
end
theorem moveSays (w : World) : MoveSays w where
  to_ := fun S p k g c w _ hS _ _ _ hc => mvTo_any S (by omega) p g c hc w k
end Go.Proofs.YtgpmfkedcoiopaaGreatDoor

/-
  The landed parser's steps: verb, target, register, begin; what a whole command says: layer 11.
-/
import Derived.Test.YtbfedakncdodcaaGrMeth
namespace Go.Proofs.Ytbfedakncdodcaa
open Go.RowKit

theorem counts_digit {c k : Int} (h : countsG c k = true) : digit0 k := by
  unfold countsG digG at h
  simp only [Bool.and_eq_true, decide_eq_true_eq] at h
  exact h.1
set_option maxHeartbeats 1000000 in
theorem gramVerb_any (s : PsG) (k : Int) (P : Nat) (w : World) (h : IsP w P s) (ho : 0 ≤ s.outer ∧ s.outer ≤ 999) :
    Calls Try.prog 22 #[.pointer (some ⟨P, 0, none⟩), .int .i32 k] w (GivesPG P w (verbL s k)) := by
  have hl := fun hd : digit0 k => fun wx => gramLonger_any s.outer k ho hd wx
  go_enter Try.func22, Try.ntmps22
  have y : w.cell? ⟨P, 6, none⟩ = some (.int .i64 s.outer) := h.outer
  unfold verbL
  cases hc : countsG s.outer k with
  | true =>
    have HL := Lib.hid (hl (counts_digit hc))
    have yz : w.frozen? ⟨P, 6, none⟩ = false := Blk.frozen h 6
    have HP := Lib.hid (h.set_outer (longerG s.outer k))
    have BB : Hid (Below P w (w.setCell ⟨P, 6, none⟩ (.int .i64 (longerG s.outer k)))) := set_below _ _ _ _
    clear h hl
    rw [if_pos rfl]
    generalize longerG s.outer k = lg at *
    go_wp2_with (first
      | (go_at_call 27; refine (gramCounts_any _ _ _).mono ?_; rw [hc]; rintro e w1 ⟨rfl, hw⟩; subst w1)
      | (go_at_call 28; refine (HL.out _).mono ?_; rintro e w1 ⟨rfl, hw⟩; subst w1)
      | (go_at_call 20; refine (gramGoOn_any _ .verb P _ HP.out).mono ?_; rintro e w1 ⟨rfl, HP, b1⟩; have BB := Lib.hid (BB.out.trans b1)))
    go_ret
    exact ⟨rfl, HP, BB.out⟩
  | false =>
    have yy : w.cell? ⟨P, 3, none⟩ = some (.int .i32 s.verb) := Blk.cell h 3
    have yz : w.frozen? ⟨P, 3, none⟩ = false := Blk.frozen h 3
    have HP := Lib.hid (h.set_verb k)
    have BB : Hid (Below P w (w.setCell ⟨P, 3, none⟩ (.int .i32 k))) := set_below _ _ _ _
    clear h hl
    rw [if_neg (by decide)]
    have yv := HP.out.visual
    dsimp only at yv
    unfold vkL
    rcases Bool.eq_false_or_eq_true s.visual with hv | hv
    · rw [hv] at yv
      rw [if_pos hv]
      clear hv
      go_wp2_with (first
        | (go_at_call 27; refine (gramCounts_any _ _ _).mono ?_; rw [hc]; rintro e w1 ⟨rfl, hw⟩; subst w1)
        | (go_at_call 29; refine (gramVisual_any _ k P _ HP.out).mono ?_; rintro e w1 ⟨rfl, HP, b1⟩; have BB := Lib.hid (BB.out.trans b1)))
      go_ret
      exact ⟨rfl, HP, BB.out⟩
    · rw [hv] at yv
      rw [if_neg (by rw [hv]; decide)]
      clear hv
      unfold normL
      cases h1 : inS k norm8 with
      | true =>
        go_wp2_with (first
          | (go_at_call 27; refine (gramCounts_any _ _ _).mono ?_; rw [hc]; rintro e w1 ⟨rfl, hw⟩; subst w1)
          | (go_at_call 15; with_reducible refine (gramIn_norm _ _ h1 _).mono ?_; rintro e w1 ⟨rfl, b1⟩; have BB := Lib.hid (BB.out.trans (b1.mono (Nat.le_of_lt HP.out.lt))); have HP := Lib.hid (HP.out.below b1)))
        go_ret
        exact ⟨rfl, HP.out, BB.out⟩
      | false =>
        rw [if_neg (by decide)]
        cases h2 : operG k with
        | true =>
          rw [if_pos rfl]
          go_wp2_with (first
            | (go_at_call 27; refine (gramCounts_any _ _ _).mono ?_; rw [hc]; rintro e w1 ⟨rfl, hw⟩; subst w1)
            | (go_at_call 15; with_reducible refine (gramIn_norm _ _ h1 _).mono ?_; rintro e w1 ⟨rfl, b1⟩; have BB := Lib.hid (BB.out.trans (b1.mono (Nat.le_of_lt HP.out.lt))); have HP := Lib.hid (HP.out.below b1))
            | (go_at_call 10; refine (gramOper_any _ _).mono ?_; rw [h2]; rintro e w1 ⟨rfl, b1⟩; have BB := Lib.hid (BB.out.trans (b1.mono (Nat.le_of_lt HP.out.lt))); have HP := Lib.hid (HP.out.below b1))
            | (go_at_call 20; refine (gramGoOn_any _ .target P _ HP.out).mono ?_; rintro e w1 ⟨rfl, HP, b1⟩; have BB := Lib.hid (BB.out.trans b1)))
          go_ret
          exact ⟨rfl, HP, BB.out⟩
        | false =>
          rw [if_neg (by decide)]
          by_cases h3 : k = 114
          · rw [if_pos h3]
            subst h3
            go_wp2_with (first
              | (go_at_call 27; refine (gramCounts_any _ _ _).mono ?_; rw [hc]; rintro e w1 ⟨rfl, hw⟩; subst w1)
              | (go_at_call 15; with_reducible refine (gramIn_norm _ _ h1 _).mono ?_; rintro e w1 ⟨rfl, b1⟩; have BB := Lib.hid (BB.out.trans (b1.mono (Nat.le_of_lt HP.out.lt))); have HP := Lib.hid (HP.out.below b1))
              | (go_at_call 10; refine (gramOper_any _ _).mono ?_; rw [h2]; rintro e w1 ⟨rfl, b1⟩; have BB := Lib.hid (BB.out.trans (b1.mono (Nat.le_of_lt HP.out.lt))); have HP := Lib.hid (HP.out.below b1))
              | (go_at_call 20; refine (gramGoOn_any _ .character P _ HP.out).mono ?_; rintro e w1 ⟨rfl, HP, b1⟩; have BB := Lib.hid (BB.out.trans b1)))
            go_ret
            exact ⟨rfl, HP, BB.out⟩
          · rw [if_neg h3]
            cases h4 : inS k macs8 with
            | true =>
              rw [if_pos rfl]
              go_wp2_with (first
                | (go_at_call 27; refine (gramCounts_any _ _ _).mono ?_; rw [hc]; rintro e w1 ⟨rfl, hw⟩; subst w1)
                | (go_at_call 15; with_reducible refine (gramIn_norm _ _ h1 _).mono ?_; rintro e w1 ⟨rfl, b1⟩; have BB := Lib.hid (BB.out.trans (b1.mono (Nat.le_of_lt HP.out.lt))); have HP := Lib.hid (HP.out.below b1))
                | (go_at_call 10; refine (gramOper_any _ _).mono ?_; rw [h2]; rintro e w1 ⟨rfl, b1⟩; have BB := Lib.hid (BB.out.trans (b1.mono (Nat.le_of_lt HP.out.lt))); have HP := Lib.hid (HP.out.below b1))
                | (go_at_call 15; with_reducible refine (gramIn_macs _ _ h4 _).mono ?_; rintro e w1 ⟨rfl, b1⟩; have BB := Lib.hid (BB.out.trans (b1.mono (Nat.le_of_lt HP.out.lt))); have HP := Lib.hid (HP.out.below b1))
                | (go_at_call 20; refine (gramGoOn_any _ .macro_ P _ HP.out).mono ?_; rintro e w1 ⟨rfl, HP, b1⟩; have BB := Lib.hid (BB.out.trans b1)))
              go_ret
              exact ⟨rfl, HP, BB.out⟩
            | false =>
              rw [if_neg (by decide)]
              go_wp2_with (first
                | (go_at_call 27; refine (gramCounts_any _ _ _).mono ?_; rw [hc]; rintro e w1 ⟨rfl, hw⟩; subst w1)
                | (go_at_call 15; with_reducible refine (gramIn_norm _ _ h1 _).mono ?_; rintro e w1 ⟨rfl, b1⟩; have BB := Lib.hid (BB.out.trans (b1.mono (Nat.le_of_lt HP.out.lt))); have HP := Lib.hid (HP.out.below b1))
                | (go_at_call 10; refine (gramOper_any _ _).mono ?_; rw [h2]; rintro e w1 ⟨rfl, b1⟩; have BB := Lib.hid (BB.out.trans (b1.mono (Nat.le_of_lt HP.out.lt))); have HP := Lib.hid (HP.out.below b1))
                | (go_at_call 15; with_reducible refine (gramIn_macs _ _ h4 _).mono ?_; rintro e w1 ⟨rfl, b1⟩; have BB := Lib.hid (BB.out.trans (b1.mono (Nat.le_of_lt HP.out.lt))); have HP := Lib.hid (HP.out.below b1))
                | (go_at_call 33; refine (gramMotion2_any _ k P _ HP.out).mono ?_; rintro e w1 ⟨rfl, HP, b1⟩; have BB := Lib.hid (BB.out.trans b1)))
              go_ret
              exact ⟨rfl, HP, BB.out⟩
set_option maxHeartbeats 1000000 in
theorem gramTarget_any (s : PsG) (k : Int) (P : Nat) (w : World) (h : IsP w P s) (hi : 0 ≤ s.inner ∧ s.inner ≤ 999) :
    Calls Try.prog 30 #[.pointer (some ⟨P, 0, none⟩), .int .i32 k] w (GivesPG P w (targetL s k)) := by
  have hl := fun hd : digit0 k => fun wx => gramLonger_any s.inner k hi hd wx
  go_enter Try.func30, Try.ntmps30
  have y : w.cell? ⟨P, 7, none⟩ = some (.int .i64 s.inner) := h.inner
  unfold targetL
  cases hc : countsG s.inner k with
  | true =>
    have HL := Lib.hid (hl (counts_digit hc))
    have yz : w.frozen? ⟨P, 7, none⟩ = false := Blk.frozen h 7
    have HP := Lib.hid (h.set_inner (longerG s.inner k))
    have BB : Hid (Below P w (w.setCell ⟨P, 7, none⟩ (.int .i64 (longerG s.inner k)))) := set_below _ _ _ _
    clear h hl
    rw [if_pos rfl]
    generalize longerG s.inner k = lg at *
    go_wp2_with (first
      | (go_at_call 27; refine (gramCounts_any _ _ _).mono ?_; rw [hc]; rintro e w1 ⟨rfl, hw⟩; subst w1)
      | (go_at_call 28; refine (HL.out _).mono ?_; rintro e w1 ⟨rfl, hw⟩; subst w1)
      | (go_at_call 20; refine (gramGoOn_any _ .target P _ HP.out).mono ?_; rintro e w1 ⟨rfl, HP, b1⟩; have BB := Lib.hid (BB.out.trans b1)))
    go_ret
    exact ⟨rfl, HP, BB.out⟩
  | false =>
    have yy : w.cell? ⟨P, 4, none⟩ = some (.int .i32 s.move) := Blk.cell h 4
    have yz : w.frozen? ⟨P, 4, none⟩ = false := Blk.frozen h 4
    have HP := Lib.hid (h.set_move k)
    have BB : Hid (Below P w (w.setCell ⟨P, 4, none⟩ (.int .i32 k))) := set_below _ _ _ _
    clear h hl
    rw [if_neg (by decide)]
    have yv := HP.out.verb
    dsimp only at yv
    unfold tkL
    by_cases h1 : k = s.verb
    · rw [if_pos h1]
      subst h1
      go_wp2_with (go_at_call 27; refine (gramCounts_any _ _ _).mono ?_; rw [hc]; rintro e w1 ⟨rfl, hw⟩; subst w1)
      go_ret
      exact ⟨rfl, HP.out, BB.out⟩
    · rw [if_neg h1]
      cases h2 : inS k kinds8 with
      | true =>
        rw [if_pos rfl]
        go_wp2_with (first
          | (go_at_call 27; refine (gramCounts_any _ _ _).mono ?_; rw [hc]; rintro e w1 ⟨rfl, hw⟩; subst w1)
          | (go_at_call 15; with_reducible refine (gramIn_kinds _ _ h2 _).mono ?_; rintro e w1 ⟨rfl, b1⟩; have BB := Lib.hid (BB.out.trans (b1.mono (Nat.le_of_lt HP.out.lt))); have HP := Lib.hid (HP.out.below b1))
          | (go_at_call 20; refine (gramGoOn_any _ .object P _ HP.out).mono ?_; rintro e w1 ⟨rfl, HP, b1⟩; have BB := Lib.hid (BB.out.trans b1)))
        go_ret
        exact ⟨rfl, HP, BB.out⟩
      | false =>
        rw [if_neg (by decide)]
        go_wp2_with (first
          | (go_at_call 27; refine (gramCounts_any _ _ _).mono ?_; rw [hc]; rintro e w1 ⟨rfl, hw⟩; subst w1)
          | (go_at_call 15; with_reducible refine (gramIn_kinds _ _ h2 _).mono ?_; rintro e w1 ⟨rfl, b1⟩; have BB := Lib.hid (BB.out.trans (b1.mono (Nat.le_of_lt HP.out.lt))); have HP := Lib.hid (HP.out.below b1))
          | (go_at_call 33; refine (gramMotion2_any _ k P _ HP.out).mono ?_; rintro e w1 ⟨rfl, HP, b1⟩; have BB := Lib.hid (BB.out.trans b1)))
        go_ret
        exact ⟨rfl, HP, BB.out⟩
set_option maxHeartbeats 1000000 in
theorem gramRegister_any (s : PsG) (k : Int) (P : Nat) (w : World) (h : IsP w P s) :
    Calls Try.prog 21 #[.pointer (some ⟨P, 0, none⟩), .int .i32 k] w (GivesPG P w (if regL k = true then ({ s with reg := k, md := .verb }, 2) else (s, 3))) := by
  have yy : w.cell? ⟨P, 1, none⟩ = some (.int .i32 s.reg) := Blk.cell h 1
  have yz : w.frozen? ⟨P, 1, none⟩ = false := Blk.frozen h 1
  have HP := Lib.hid h
  have BB : Hid (Below P w w) := Below.refl P w
  clear h
  go_enter Try.func21, Try.ntmps21
  cases h1 : lettG k with
  | true =>
    rw [if_pos (show regL k = true by unfold regL; simp [h1])]
    have HS := Lib.hid (HP.out.set_reg k)
    go_wp2_with (first
      | (go_at_call 24; refine (gramLetter_any k _).mono ?_; rw [h1]; rintro e w1 ⟨rfl, hw⟩; subst w1)
      | (go_at_call 20; refine (gramGoOn_any _ .verb P _ HS.out).mono ?_; rintro e w1 ⟨rfl, HP, b1⟩; have BB := Lib.hid ((BB.out.trans (set_below _ _ _ _)).trans b1)))
    go_ret
    exact ⟨rfl, HP, BB.out⟩
  | false =>
    cases h2 : capG k with
    | true =>
      rw [if_pos (show regL k = true by unfold regL; simp [h1, h2])]
      have HS := Lib.hid (HP.out.set_reg k)
      go_wp2_with (first
        | (go_at_call 24; refine (gramLetter_any k _).mono ?_; rw [h1]; rintro e w1 ⟨rfl, hw⟩; subst w1)
        | (go_at_call 25; refine (gramCapital_any k _).mono ?_; rw [h2]; rintro e w1 ⟨rfl, hw⟩; subst w1)
        | (go_at_call 20; refine (gramGoOn_any _ .verb P _ HS.out).mono ?_; rintro e w1 ⟨rfl, HP, b1⟩; have BB := Lib.hid ((BB.out.trans (set_below _ _ _ _)).trans b1)))
      go_ret
      exact ⟨rfl, HP, BB.out⟩
    | false =>
      cases h3 : digG k with
      | true =>
        rw [if_pos (show regL k = true by unfold regL; simp [h1, h2, h3])]
        have HS := Lib.hid (HP.out.set_reg k)
        go_wp2_with (first
          | (go_at_call 24; refine (gramLetter_any k _).mono ?_; rw [h1]; rintro e w1 ⟨rfl, hw⟩; subst w1)
          | (go_at_call 25; refine (gramCapital_any k _).mono ?_; rw [h2]; rintro e w1 ⟨rfl, hw⟩; subst w1)
          | (go_at_call 26; refine (gramDigit_any k _).mono ?_; rw [h3]; rintro e w1 ⟨rfl, hw⟩; subst w1)
          | (go_at_call 20; refine (gramGoOn_any _ .verb P _ HS.out).mono ?_; rintro e w1 ⟨rfl, HP, b1⟩; have BB := Lib.hid ((BB.out.trans (set_below _ _ _ _)).trans b1)))
        go_ret
        exact ⟨rfl, HP, BB.out⟩
      | false =>
        cases h4 : inS k signs8 with
        | true =>
          rw [if_pos (show regL k = true by unfold regL; simp [h4])]
          have HI := Lib.hid (gramIn_signs k _ h4 w)
          go_upto_region 3 with (first
            | (go_at_call 24; refine (gramLetter_any k _).mono ?_; rw [h1]; rintro e w1 ⟨rfl, hw⟩; subst w1)
            | (go_at_call 25; refine (gramCapital_any k _).mono ?_; rw [h2]; rintro e w1 ⟨rfl, hw⟩; subst w1)
            | (go_at_call 26; refine (gramDigit_any k _).mono ?_; rw [h3]; rintro e w1 ⟨rfl, hw⟩; subst w1)
            | (go_at_call 15; with_reducible refine HI.out.mono ?_; rintro e w1 ⟨rfl, b1⟩; have BB := Lib.hid (BB.out.trans (b1.mono (Nat.le_of_lt HP.out.lt))); have HP := Lib.hid (HP.out.below b1)))
          have yy1 : w1.cell? ⟨P, 1, none⟩ = some (.int .i32 s.reg) := Blk.cell HP.out 1
          have yz1 : w1.frozen? ⟨P, 1, none⟩ = false := Blk.frozen HP.out 1
          have HS := Lib.hid (HP.out.set_reg k)
          go_wp2_with (go_at_call 20; refine (gramGoOn_any _ .verb P _ HS.out).mono ?_; rintro e w1 ⟨rfl, HP, b1⟩; have BB := Lib.hid ((BB.out.trans (set_below _ _ _ _)).trans b1))
          go_ret
          exact ⟨rfl, HP, BB.out⟩
        | false =>
          rw [if_neg (show ¬ regL k = true by unfold regL; simp [h1, h2, h3, h4])]
          go_wp2_with (first
            | (go_at_call 24; refine (gramLetter_any k _).mono ?_; rw [h1]; rintro e w1 ⟨rfl, hw⟩; subst w1)
            | (go_at_call 25; refine (gramCapital_any k _).mono ?_; rw [h2]; rintro e w1 ⟨rfl, hw⟩; subst w1)
            | (go_at_call 26; refine (gramDigit_any k _).mono ?_; rw [h3]; rintro e w1 ⟨rfl, hw⟩; subst w1)
            | (go_at_call 15; with_reducible refine (gramIn_signs _ _ h4 _).mono ?_; rintro e w1 ⟨rfl, b1⟩; have BB := Lib.hid (BB.out.trans (b1.mono (Nat.le_of_lt HP.out.lt))); have HP := Lib.hid (HP.out.below b1)))
          go_ret
          exact ⟨rfl, HP.out, BB.out⟩
set_option maxHeartbeats 1000000 in
theorem gramBegin_any (s : PsG) (k : Int) (P : Nat) (w : World) (h : IsP w P s) (ho : 0 ≤ s.outer ∧ s.outer ≤ 999) :
    Calls Try.prog 17 #[.pointer (some ⟨P, 0, none⟩), .int .i32 k] w (GivesPG P w (if k = 34 then ({ s with md := .register }, 2) else verbL s k)) := by
  have HP := Lib.hid h
  have BB : Hid (Below P w w) := Below.refl P w
  clear h
  go_enter Try.func17, Try.ntmps17
  by_cases h1 : k = 34
  · rw [if_pos h1]
    subst h1
    go_wp2_with (go_at_call 20; refine (gramGoOn_any _ .register P _ HP.out).mono ?_; rintro e w1 ⟨rfl, HP, b1⟩; have BB := Lib.hid (BB.out.trans b1))
    go_ret
    exact ⟨rfl, HP, BB.out⟩
  · rw [if_neg h1]
    go_wp2_with (go_at_call 22; refine (gramVerb_any s k P _ HP.out ho).mono ?_; rintro e w1 ⟨rfl, HP, b1⟩; have BB := Lib.hid (BB.out.trans b1))
    go_ret
    exact ⟨rfl, HP, BB.out⟩
end Go.Proofs.Ytbfedakncdodcaa

/-
  The document's one: layer 10.
-/
import Derived.Test.YtfoncmgcdldkdaaDoorKeyPrint
import Derived.Test.YtfoncmgcdldkdaaDoorGlyMoves
namespace Go.Proofs.YtfoncmgcdldkdaaDoor
open Go.RowKit

/-- what stands at the head hangs on four bytes -/
theorem dec_four (S : List UInt8) : dec (S.take 4) = dec S := by
  have hg : ∀ k, k < 4 → (S.take 4).getD k 0 = S.getD k 0 := fun k hk => by
    rw [List.getD_eq_getElem?_getD, List.getD_eq_getElem?_getD, List.getElem?_take, if_pos hk]
  have hs : ∀ k, k < 4 → decide (k < (S.take 4).length) = decide (k < S.length) := fun k hk => by
    rw [List.length_take]
    by_cases h : k < S.length
    · rw [decide_eq_true h, decide_eq_true (by omega)]
    · rw [decide_eq_false h, decide_eq_false (by omega)]
  simp only [dec, hg 0 (by omega), hg 1 (by omega), hg 2 (by omega), hg 3 (by omega), hs 1 (by omega), hs 2 (by omega), hs 3 (by omega)]
theorem oneK_ang {S : List UInt8} {r : Nat} (ha : angK r = true) (h : (writK r).isPrefixOf S = true) : oneK S = some r := by
  obtain ⟨t, rfl⟩ := List.isPrefixOf_iff_prefix.1 h
  exact oneK_writ (ang_key ha) t
theorem oneK_else {S : List UInt8} (h : ∀ r, angK r = true → (writK r).isPrefixOf S = false) : oneK S = if S = [] ∨ S.head? = some 60 ∨ broken (dec S) = true ∨ ¬ keyK (dec S).1 ∨ (dec S).1 < 32 then none else some (dec S).1 := by
  unfold oneK
  have e : (List.range 61).filter (fun r => angK r && (writK r).isPrefixOf S) = [] := by
    rw [List.filter_eq_nil_iff]
    intro r _ hr
    rw [Bool.and_eq_true] at hr
    rw [h r hr.1] at hr
    exact absurd hr.2 (by decide)
  rw [e]
  rfl
/-- a key and its word; 0: none -/
def oneV (o : Option Nat) : Value := match o with | some r => .tuple #[.int .i64 (r : Nat), .string ⟨(writK r).toArray⟩] | none => .tuple #[.int .i64 0, .string ⟨#[]⟩]
theorem ang_of {r : Nat} (h1 : 1 ≤ r) (h2 : r ≤ 27) : angK r = true := decide_eq_true (Or.inl ⟨h1, h2⟩)
set_option maxRecDepth 100000 in
set_option maxHeartbeats 4000000 in
theorem refKOne_any (S : List UInt8) (hS : S.length ≤ 1000000) (hne : S ≠ []) (w : World) :
    Calls Tryd.prog 24 #[.string ⟨S.toArray⟩] w fun e w' => e = .returned (oneV (oneK S)) ∧ Below w.heap.size w w' := by
  have HNE := Lib.hid hne
  clear hne
  go_enter Tryd.func24, Tryd.ntmps24
  go_wp2_with fail
  go_loopw [4] (fun i wr => ∃ k : Nat, 1 ≤ k ∧ k ≤ 28 ∧ i = .int .i64 k ∧ (∀ r, 1 ≤ r → r < k → (writK r).isPrefixOf S = false) ∧ Below w.heap.size w wr) (fun i _ => 28 - (intOf i).toNat)
  case atStart => exact ⟨1, by omega, by omega, rfl, fun r h1 h2 => by omega, Below.refl _ _⟩
  case round =>
    obtain ⟨k, hk1, hk28, rfl, hno, hb⟩ := hrel
    have HN := Lib.hid hno
    clear hno
    by_cases hk : k ≤ 27
    · have hk' : (k : Int) ≤ 27 := by omega
      have hw5 := writK_len k
      by_cases hp : (writK k).isPrefixOf S = true
      · have HO := Lib.hid (oneK_ang (ang_of hk1 hk) hp)
        go_wp2_with (first
          | (go_at_call 21; refine (refKWritten_any k (by omega) _).mono ?_; rintro e w1 ⟨rfl, b1⟩; replace hb := hb.trans (b1.mono hb.size))
          | (go_at_call 29; refine (refKBegins_any S (writK k) hS (by omega) _).mono ?_; rw [hp]; rintro e w' ⟨rfl, hw⟩; subst w'))
        go_ret2
        exact ⟨by rw [HO.out]; rfl, hb⟩
      · rw [Bool.not_eq_true] at hp
        have HP := Lib.hid hp
        clear hp
        go_wp2_with (first
          | (go_at_call 21; refine (refKWritten_any k (by omega) _).mono ?_; rintro e w1 ⟨rfl, b1⟩; replace hb := hb.trans (b1.mono hb.size))
          | (go_at_call 29; refine (refKBegins_any S (writK k) hS (by omega) _).mono ?_; rw [HP.out]; rintro e w' ⟨rfl, hw⟩; subst w'))
        go_roundw
        case rel => exact ⟨k + 1, by omega, by omega, by go_num, fun r h1 h2 => by rcases (show r < k ∨ r = k by omega) with h | rfl; exact HN.out r h1 h; exact HP.out, hb⟩
        case measure => simp [intOf]; omega
    · have hk' : ¬ (k : Int) ≤ 27 := by omega
      have hw5 := writK_len 60
      by_cases hp : (writK 60).isPrefixOf S = true
      · have HO := Lib.hid (oneK_ang (r := 60) (by decide) hp)
        go_wp2_with (first
          | (go_at_call 21; refine (refKWritten_any 60 (by omega) _).mono ?_; rintro e w1 ⟨rfl, b1⟩; replace hb := hb.trans (b1.mono hb.size))
          | (go_at_call 29; refine (refKBegins_any S (writK 60) hS (by omega) _).mono ?_; rw [hp]; rintro e w' ⟨rfl, hw⟩; subst w'))
        go_ret2
        exact ⟨by rw [HO.out]; rfl, hb⟩
      · rw [Bool.not_eq_true] at hp
        have HO := Lib.hid (oneK_else (S := S) (fun r hr => by
          have := of_decide_eq_true hr
          rcases this with h | h
          · exact HN.out r h.1 (by omega)
          · subst h; exact hp))
        go_upto_region 8 with (first
          | (go_at_call 21; refine (refKWritten_any 60 (by omega) _).mono ?_; rintro e w1 ⟨rfl, b1⟩; replace hb := hb.trans (b1.mono hb.size))
          | (go_at_call 29; refine (refKBegins_any S (writK 60) hS (by omega) _).mono ?_; rw [hp]; rintro e w' ⟨rfl, hw⟩; subst w'))
        have hT : (S.take 4).length ≤ 1000000 := by rw [List.length_take]; omega
        obtain ⟨a, t, hat⟩ := List.exists_cons_of_ne_nil HNE.out
        have hlen1 : 1 ≤ S.length := by rw [hat]; simp
        have hne4 : S.take 4 ≠ [] := by rw [hat]; simp
        have hch := chars_cons hne4
        rw [dec_four] at hch
        have HE : Hid (({ data := S.toArray } : ByteArray).extract 0 (if (4 : Int) < (S.length : Int) then 4 else (S.length : Int)).toNat = ⟨(S.take 4).toArray⟩) := by
          show _ = _
          rw [text_front]
          congr 2
          split
          · rfl
          · rw [Int.toNat_natCast, List.take_of_length_le (Nat.le_refl _), List.take_of_length_le (by omega)]
        have HAT := Lib.hid hat
        have HCH := Lib.hid hch
        have H0 : Hid (S.head? = some a) := by show _ = _; rw [hat]; rfl
        have hS0 := byte_at S 0 (by omega)
        have hS0' : S[0] = a := by
          have := HAT.out
          subst this
          rfl
        clear hat hch
        go_upto_region 9 with (go_at_call 30; rw [HE.out]; refine (refSigns_any (S.take 4) hT _).mono ?_; rintro e w2 ⟨A2, c2, rfl, own2, b2⟩; have R2 := Lib.hid (Row.of_own own2); replace hb := hb.trans (b2.mono hb.size); clear own2 b2)
        have hcl : 0 < (chars (S.take 4)).length := by rw [HCH.out]; simp
        obtain ⟨ad, rfl, _, c0, c1, c2', c3⟩ := sign_cells R2.out hcl
        have h0 : (chars (S.take 4))[0] = dec S := by simp only [HCH.out, List.getElem_cons_zero]
        rw [h0] at c1 c2' c3
        clear h0 c0 c1
        generalize (chars (S.take 4)).length = nc at *
        obtain ⟨x, hx⟩ : ∃ x, dec S = x := ⟨_, rfl⟩
        have HX := Lib.hid hx
        rw [hx] at c2' c3
        have hxr : x.1 ≤ 1114111 := by rw [← hx]; exact dec_rune S
        clear hx
        have v2 : w2.cell? ⟨ad.block, ad.off + 2, none⟩ = some (.int .i64 (x.1 : Int)) := c2'
        have v3 : w2.cell? ⟨ad.block, ad.off + 3, none⟩ = some (.bool (!broken x)) := c3
        clear c2' c3
        by_cases h60 : a = 60
        · have HR : Hid (oneK S = none) := by
            show _ = _
            rw [HO.out, if_pos (Or.inr (Or.inl (by rw [H0.out, h60])))]
          subst h60
          go_wp2_with fail
          all_goals
            go_ret2
            exact ⟨by rw [HR.out]; rfl, hb⟩
        · have e60 : ((a.toNat : Int) == 60) = false := by
            rw [beq_eq_false_iff_ne]
            intro e
            exact h60 (UInt8.toNat_inj.1 (by simpa using (show a.toNat = 60 by omega)))
          have HO2 : Hid (oneK S = if broken x = true ∨ ¬ keyK x.1 ∨ x.1 < 32 then none else some x.1) := by
            show _ = _
            rw [HO.out, HX.out]
            have q1 : ¬ S = [] := HNE.out
            have q2 : ¬ S.head? = some 60 := by rw [H0.out]; intro e; injection e with e; exact h60 e
            simp only [q1, q2, false_or]
          clear h60
          rcases hbr : broken x with _ | _
          · rw [hbr] at v3 HO2
            by_cases hk1 : keyK (x.1 : Nat)
            · have hk2 := decide_eq_true hk1
              by_cases h32 : x.1 < 32
              · have h32' : (x.1 : Int) < 32 := by omega
                have HR : Hid (oneK S = none) := by show _ = _; rw [HO2.out, if_pos (Or.inr (Or.inr h32))]
                clear hk1
                go_wp2_with (go_at_call 9; refine (refKMay_any (x.1 : Nat) _).mono ?_; rw [hk2]; rintro e w' ⟨rfl, hw⟩; subst w')
                all_goals
                  go_ret2
                  exact ⟨by rw [HR.out]; rfl, hb⟩
              · have h32' : ¬ (x.1 : Int) < 32 := by omega
                have HR : Hid (oneK S = some x.1) := by
                  show _ = _
                  rw [HO2.out, if_neg]
                  rintro (h | h | h)
                  · cases h
                  · exact h hk1
                  · exact h32 h
                clear hk1
                go_wp2_with (first
                  | (go_at_call 9; refine (refKMay_any (x.1 : Nat) _).mono ?_; rw [hk2]; rintro e w' ⟨rfl, hw⟩; subst w')
                  | (go_at_call 21; refine (refKWritten_any x.1 (by omega) _).mono ?_; rintro e w5 ⟨rfl, b5⟩; replace hb := hb.trans (b5.mono hb.size)))
                all_goals
                  go_ret2
                  exact ⟨by rw [HR.out]; rfl, hb⟩
            · have hk2 := decide_eq_false hk1
              have HR : Hid (oneK S = none) := by show _ = _; rw [HO2.out, if_pos (Or.inr (Or.inl hk1))]
              clear hk1
              go_wp2_with (go_at_call 9; refine (refKMay_any (x.1 : Nat) _).mono ?_; rw [hk2]; rintro e w' ⟨rfl, hw⟩; subst w')
              all_goals
                go_ret2
                exact ⟨by rw [HR.out]; rfl, hb⟩
          · rw [hbr] at v3 HO2
            have HR : Hid (oneK S = none) := by show _ = _; rw [HO2.out, if_pos (Or.inl rfl)]
            go_wp2_with fail
            all_goals
              go_ret2
              exact ⟨by rw [HR.out]; rfl, hb⟩
end Go.Proofs.YtfoncmgcdldkdaaDoor

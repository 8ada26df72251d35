/-
  Merged: OpEdit, OpEdiD, OpEdiP, OpBackM, OpHide, OpHidD, OpTogT, OpThTo, OpInsT, OpThSh.
-/
import Derived.Test.YtgpmfkedcoiopaaGreatDoorM14c
import Derived.Test.YtgpmfkedcoiopaaGreatDoorM12p
import Derived.Test.YtgpmfkedcoiopaaGreatDoorM06r
/-
  What operators' edits are, as plain facts: each can be made; one is within the text behind it: layer 14.
-/
namespace Go.Proofs.YtgpmfkedcoiopaaGreatDoor
open Go.RowKit

/-- an edit that can be made of a text, with a place in the text behind it -/
def EditOk (S : List UInt8) (l : List RunP) (E : EdP) (z : Int) : Prop := ∃ U q, applyE S l E.a E.S E.l E.X E.m = ((U, q), 0) ∧ 0 ≤ z ∧ z ≤ (U.length : Int)
theorem splice_len {S X : List UInt8} {l m : List RunP} {f t : Int} (h : (spliceT S l f t X m).2 = 0) : ((spliceT S l f t X m).1.1.length : Int) = S.length - (t - f) + X.length := by
  obtain ⟨h1, h2, h3⟩ := spliceT_zero h
  have h4 := withinT_of h1
  unfold spliceT
  rw [if_pos ⟨h1, h2⟩, if_pos h3]
  show ((S.take f.toNat ++ X ++ S.drop t.toNat).length : Int) = _
  rw [List.length_append, List.length_append, List.length_take, List.length_drop]
  omega
theorem splice_good {S X : List UInt8} {l m : List RunP} {f t : Int} (h : (spliceT S l f t X m).2 = 0) : goodT (spliceT S l f t X m).1.1 (spliceT S l f t X m).1.2 = true := by
  obtain ⟨h1, h2, h3⟩ := spliceT_zero h
  have h4 := withinT_of h1
  have g1 := goodT_size h4.1
  have g2 := goodT_size h2
  unfold spliceT
  rw [if_pos ⟨h1, h2⟩, if_pos h3]
  have hlen : ((bytesOf l).take f.toNat ++ bytesOf m ++ (bytesOf l).drop t.toNat).length = (S.take f.toNat ++ X ++ S.drop t.toNat).length := by
    simp only [List.length_append, List.length_take, List.length_drop]
    omega
  have hle : (S.take f.toNat ++ X ++ S.drop t.toNat).length ≤ 4096 := by
    simp only [List.length_append, List.length_take, List.length_drop]
    omega
  rw [goodT_iff]
  show goodB (pack _) = true ∧ (bytesOf (pack _)).length = _
  rw [bytesOf_pack]
  exact ⟨goodB_pack (by rw [hlen]; exact hle), hlen⟩
theorem turned_ok {S : List UInt8} {l : List RunP} {y : Nat} {f e : Int} {X : List UInt8} {m : List RunP} {b : Bool} (h : (turnedM S l y f e X m b).2 = 0) :
    b = true ∧ (turnedM S l y f e X m b).1.1.a = f ∧ withinT S l f e = true ∧ goodT X m = true ∧ (spliceT S l f e X m).2 = 0 ∧ (turnedM S l y f e X m b).1.1.X = X ∧ (turnedM S l y f e X m b).1.1.m = m ∧ cutOf S l f e = (((turnedM S l y f e X m b).1.1.S, (turnedM S l y f e X m b).1.1.l), 0) ∧
    applyE S l (turnedM S l y f e X m b).1.1.a (turnedM S l y f e X m b).1.1.S (turnedM S l y f e X m b).1.1.l (turnedM S l y f e X m b).1.1.X (turnedM S l y f e X m b).1.1.m = spliceT S l f e X m ∧
    (turnedM S l y f e X m b).1.2 = (viewOf (spliceT S l f e X m).1.1 (spliceT S l f e X m).1.2 y).1 ∧ (turnedM S l y f e X m b).1.2.length = (spliceT S l f e X m).1.1.length := by
  unfold turnedM at h ⊢
  cases b with
  | false => rw [if_pos rfl] at h; exact absurd h (by decide)
  | true =>
    rw [if_neg (by decide)] at h ⊢
    by_cases h0 : (ofE S l f e X m).2 = 0
    · rw [if_pos h0] at h ⊢
      rcases hE : (ofE S l f e X m).1 with ⟨a, U, q, V, r⟩
      have hof : ofE S l f e X m = (⟨a, U, q, V, r⟩, 0) := Prod.ext hE h0
      obtain ⟨rfl, rfl, rfl, hc, ha, hs⟩ := of_apply hof
      obtain ⟨w1, w2, _⟩ := spliceT_zero hs
      refine ⟨rfl, rfl, w1, w2, hs, rfl, rfl, hc, ha, rfl, ?_⟩
      have hg := splice_good hs
      show (viewOf _ _ y).1.length = _
      unfold viewOf
      rw [if_pos hg]
      exact viewTo_len (goodT_size hg).2.2
    · rw [if_neg h0] at h
      exact absurd h h0
theorem turned_edit {S : List UInt8} {l : List RunP} {y : Nat} {f e : Int} {X : List UInt8} {m : List RunP} {b : Bool} (h : (turnedM S l y f e X m b).2 = 0) {z : Int} (h0 : 0 ≤ z) (hz : z ≤ (S.length : Int) - (e - f) + X.length) : EditOk S l (turnedM S l y f e X m b).1.1 z := by
  obtain ⟨_, _, _, _, hs, _, _, _, ha, _, _⟩ := turned_ok h
  have hl := splice_len hs
  rcases hr : spliceT S l f e X m with ⟨⟨U, q⟩, n⟩
  rw [hr] at hs hl ha
  dsimp only at hs hl
  subst hs
  exact ⟨U, q, ha, h0, by omega⟩
end Go.Proofs.YtgpmfkedcoiopaaGreatDoor

/-
  The edits of Do can be made, as plain facts: layer 14.
-/
namespace Go.Proofs.YtgpmfkedcoiopaaGreatDoor
open Go.RowKit

theorem goodT_nil : goodT [] [] = true := by decide
theorem within_nat {S : List UInt8} {l : List RunP} (hg : goodT S l = true) {f e : Nat} (hfe : f ≤ e) (he : e ≤ S.length) : withinT S l (f : Int) (e : Int) = true := (withinT_iff S l _ _).2 ⟨hg, by omega, by omega, by omega⟩
theorem turned_del {S : List UInt8} {l : List RunP} (hg : goodT S l = true) {f e : Nat} (hfe : f ≤ e) (he : e ≤ S.length) (y : Nat) : (turnedM S l y (f : Int) (e : Int) [] [] true).2 = 0 := by
  have hw := within_nat hg hfe he
  have hs := (goodT_size hg).1
  have hc : (cutOf S l (f : Int) (e : Int)).2 = 0 := by unfold cutOf; rw [if_pos hw]
  have hp : (spliceT S l (f : Int) (e : Int) [] []).2 = 0 := by
    unfold spliceT
    rw [if_pos ⟨hw, goodT_nil⟩, if_pos (by simp; omega)]
  unfold turnedM
  rw [if_neg (by decide)]
  have ho : (ofE S l (f : Int) (e : Int) [] []).2 = 0 := by unfold ofE; rw [if_pos hc, if_pos hp]
  rw [if_pos ho]
theorem apply_none {S : List UInt8} {l : List RunP} (hg : goodT S l = true) {f : Nat} (hf : f ≤ S.length) : applyE S l (f : Int) [] [] [] [] = ((S, l), 0) := by
  have hb := (goodT_iff S l).1 hg
  have hs := goodT_size hg
  refine made_applyE ⟨(goodE_iff _ _ _ _ _).2 ⟨goodT_nil, goodT_nil, by omega, by omega⟩, hb.1, S.take f, S.drop f, (bytesOf l).take f, (bytesOf l).drop f, ?_, ?_, ?_, ?_, ?_, hs.1, ?_, ?_, ?_⟩
  · rw [List.append_nil, List.take_append_drop]
  · rw [show bytesOf ([] : List RunP) = [] from rfl, List.append_nil, List.take_append_drop]
  · rw [List.length_take]; omega
  · rw [List.length_take, List.length_take]; omega
  · rw [List.length_drop, List.length_drop]; omega
  · rw [List.length_take, List.length_drop]; simp; omega
  · rw [List.append_nil, List.take_append_drop]
  · rw [show bytesOf ([] : List RunP) = [] from rfl, List.append_nil, List.take_append_drop, goodB_eq hb.1]
/-- the bytes that go with whole lines -/
theorem whole_in {V : List UInt8} {i j : Nat} (hij : i ≤ j) (hj : j < countL V) : (wholeL V i j).1.1 ≤ (wholeL V i j).1.2 ∧ (wholeL V i j).1.2 ≤ V.length := by
  rw [wholeL_good ⟨by omega, by omega, by omega⟩]
  split
  · next h =>
    have h2 : j + 1 < countL V := by omega
    rw [show ((j : Int) + 1) = ((j + 1 : Nat) : Int) by omega, boundsL_nat (show i < countL V by omega), boundsL_nat h2]
    exact ⟨beg_mono (by omega) h2, beg_le h2⟩
  · split
    · have := beg_le (show i < countL V by omega)
      rw [boundsL_nat (show i < countL V by omega)]
      dsimp only
      omega
    · exact ⟨Nat.zero_le _, Nat.le_refl _⟩
theorem first_in (W : List UInt8) (n : Int) : firstL W n ≤ W.length := (Beg.firstL W n).le
theorem turned_first {S : List UInt8} {l : List RunP} {y : Nat} {f e : Int} {X : List UInt8} {m : List RunP} {b : Bool} (h : (turnedM S l y f e X m b).2 = 0) (n : Int) : EditOk S l (turnedM S l y f e X m b).1.1 (firstL (turnedM S l y f e X m b).1.2 n : Nat) := by
  obtain ⟨_, _, _, _, hs, _, _, _, _, _, hw⟩ := turned_ok h
  have h1 := first_in (turnedM S l y f e X m b).1.2 n
  have h2 := splice_len hs
  exact turned_edit h (by omega) (by omega)
theorem editOk_if {S : List UInt8} {l : List RunP} {E : EdP} {n : Nat} {RS : List UInt8} {rl : List RunP} {b c : Bool} {z : Int} (h : n = 0 → EditOk S l E z) (hn : (if n = 0 then ((⟨E, RS, rl, b, c, z⟩ : OutP), 0) else (out0, n)).2 = 0) :
    EditOk S l (if n = 0 then ((⟨E, RS, rl, b, c, z⟩ : OutP), 0) else (out0, n)).1.E (if n = 0 then ((⟨E, RS, rl, b, c, z⟩ : OutP), 0) else (out0, n)).1.at_ := by
  by_cases h0 : n = 0
  · rw [if_pos h0]; exact h h0
  · rw [if_neg h0] at hn; exact absurd hn h0
theorem turned_range {S : List UInt8} {l : List RunP} {y : Nat} {f e : Int} {X : List UInt8} {m : List RunP} {b : Bool} (h : (turnedM S l y f e X m b).2 = 0) : 0 ≤ f ∧ f ≤ e ∧ e ≤ (S.length : Int) := by
  obtain ⟨_, _, hw, _⟩ := turned_ok h
  exact (withinT_of hw).2
theorem pile_app_le (L M : List TP) (Y : TP) (h : pileM (L ++ M) = some Y) : ((pileM L).getD ([], [])).1.length ≤ Y.1.length := by
  unfold pileM at h ⊢
  split at h
  · next hc =>
    have hy := Option.some.inj h
    rw [goodC_app, bytesC_app] at hc
    have hg : goodC L = true := (Bool.and_eq_true _ _ ▸ hc.1 : _ ∧ _).1
    rw [if_pos ⟨hg, by have := hc.2; rw [List.length_append] at this; omega⟩, ← hy]
    show (bytesC L).length ≤ (bytesC (L ++ M)).length
    rw [bytesC_app, List.length_append]
    omega
  · cases h
theorem jo_at_le {S : List UInt8} {l : List RunP} {V : List UInt8} {y : Nat} {a : Int} : ∀ (k : Nat) (Y : TP), pileM (joList S l V y a k) = some Y → joAt S l V y a k ≤ (boundsL V a).1.1 + Y.1.length
  | 0, Y, _ => Nat.zero_le _
  | k + 1, Y, h => by
    unfold joList at h
    have := pile_app_le _ _ Y h
    show (boundsL V a).1.1 + ((pileM (joList S l V y a k)).getD ([], [])).1.length ≤ _
    omega
theorem edit_do {S : List UInt8} {l : List RunP} {y : Nat} {op f t : Int} {b : Bool} (h : (doM S l y op f t b).2 = 0) : EditOk S l (doM S l y op f t b).1.E (doM S l y op f t b).1.at_ := by
  unfold doM at h ⊢
  dsimp only at h ⊢
  split at h
  · exact absurd h (by decide)
  · next hn =>
    rw [if_neg hn]
    have h0 : (viewOf S l y).2 = 0 := Decidable.byContradiction fun e => hn (.inl e)
    have hr : rightM (viewOf S l y).1 f t b = true := by
      cases h : rightM (viewOf S l y).1 f t b with
      | true => rfl
      | false => exact absurd (.inr h) hn
    have hg : goodT S l = true := by
      unfold viewOf at h0
      split at h0
      · next hg => exact hg
      · exact absurd h0 (by decide)
    have hvs := view_same h0
    have hvl := view_len S l y
    obtain ⟨_, _, _, ⟨F, E, q4, q5, q6⟩, a, e, q7, q8, q9⟩ := right_facts hr hvl
    split at h
    · next ho =>
      rw [if_pos ho]
      unfold takenM
      dsimp only
      rw [q4]
      dsimp only
      split
      · exact ⟨S, l, apply_none hg (by omega), by show (0 : Int) ≤ F; omega, by show (F : Int) ≤ _; omega⟩
      · split
        · next hb =>
          obtain ⟨_, rfl⟩ := hb
          unfold rightM at hr
          rw [if_pos rfl] at hr
          have hr := of_decide_eq_true hr
          obtain ⟨i, rfl⟩ : ∃ i : Nat, f = i := ⟨f.toNat, by omega⟩
          obtain ⟨j, rfl⟩ : ∃ j : Nat, t = j := ⟨t.toNat, by omega⟩
          obtain ⟨w1, w2⟩ := whole_in (V := (viewOf S l y).1) (i := i) (j := j) (by omega) (by omega)
          exact turned_first (turned_del hg w1 (by omega) y) _
        · exact turned_edit (turned_del hg q5 (by omega) y) (by show (0 : Int) ≤ (F : Int); omega) (by show (F : Int) ≤ (S.length : Int) - ((E : Int) - (F : Int)) + (([] : List UInt8).length : Nat); simp; omega)
    · next ho =>
      rw [if_neg ho]
      split at h
      · next ho2 =>
        rw [if_pos ho2]
        unfold shiftedM at h ⊢
        dsimp only at h ⊢
        exact editOk_if (fun h0 => turned_first h0 _) h
      · next ho2 =>
        rw [if_neg ho2]
        split at h
        · next ho3 =>
          rw [if_pos ho3]
          unfold toggledM at h ⊢
          dsimp only at h ⊢
          exact editOk_if (fun h0 => turned_edit h0 (turned_range h0).1 (by have := turned_range h0; omega)) h
        · next ho3 =>
          rw [if_neg ho3]
          split at h
          · next ho4 =>
            rw [if_pos ho4]
            unfold joinedM at h ⊢
            dsimp only at h ⊢
            split at h
            · exact absurd h (by decide)
            · next hc =>
              rw [if_neg hc]
              refine editOk_if (fun h0 => ?_) h
              obtain ⟨hb, _⟩ := turned_ok h0
              obtain ⟨Y, hY⟩ := Option.isSome_iff_exists.1 hb
              have h1 := jo_at_le _ _ hY
              have h2 := turned_range h0
              refine turned_edit h0 (by omega) ?_
              rw [hY]
              show _ ≤ (S.length : Int) - _ + (Y.1.length : Nat)
              omega
          · exact absurd h (by decide)
end Go.Proofs.YtgpmfkedcoiopaaGreatDoor

/-
  The edits of Swap and Put can be made, as plain facts: layer 14.
-/
namespace Go.Proofs.YtgpmfkedcoiopaaGreatDoor
open Go.RowKit

theorem edit_swap {S : List UInt8} {l : List RunP} {y : Nat} {p n k : Int} (h : (swapM S l y p n k).2 = 0) : EditOk S l (swapM S l y p n k).1.E (swapM S l y p n k).1.at_ := by
  unfold swapM at h ⊢
  split at h
  · exact absurd h (by decide)
  · next h1 =>
    rw [if_neg h1]
    split at h
    · exact absurd h (by decide)
    · next h2 =>
      rw [if_neg h2]
      have hm := (many_pos n).1
      have hl := swapS_len k (manyM n)
      have hK : (enc k.toNat).length ≤ (swapS k (manyM n)).length := by
        rw [hl]
        exact Nat.le_mul_of_pos_left _ hm
      generalize swapS k (manyM n) = s at *
      generalize pack (List.replicate s.length y) = q at *
      generalize atM (viewOf S l y).1 (whichM (chars (viewOf S l y).1) p + manyM n) = e at *
      generalize alignM (viewOf S l y).1 p = f at *
      refine editOk_if (fun h0 => ?_) h
      have hr := turned_range h0
      exact turned_edit h0 (by omega) (by omega)
theorem edit_put {S : List UInt8} {l : List RunP} {y : Nat} {p : Int} {X : List UInt8} {m : List RunP} {b ah : Bool} {n : Int} (h : (putM S l y p X m b ah n).2 = 0) : EditOk S l (putM S l y p X m b ah n).1.E (putM S l y p X m b ah n).1.at_ := by
  unfold putM at h ⊢
  split at h
  · exact absurd h (by decide)
  · next h1 =>
    rw [if_neg h1]
    have h0 : (viewOf S l y).2 = 0 := Decidable.byContradiction fun e => h1 (.inl e)
    have hvs := view_same h0
    have hal := alignM_le (viewOf S l y).1 p
    split at h
    · next h2 =>
      rw [if_pos h2]
      unfold putLM layM at h ⊢
      exact editOk_if (fun h0 => turned_first h0 _) h
    · next h2 =>
      rw [if_neg h2]
      unfold layM at h ⊢
      generalize (timesM [(X, m)] (manyM n)).getD ([], []) = Yp at *
      generalize (timesM [(X, m)] (manyM n)).isSome = ft at *
      generalize putTo (viewOf S l y).1 (alignM (viewOf S l y).1 p) ah = tq at *
      refine editOk_if (fun h0 => ?_) h
      obtain ⟨_, _, _, _, hs, _, _, _, _, _, hw⟩ := turned_ok h0
      have h3 := splice_len hs
      have h4 := alignM_le (turnedM S l y (tq : Nat) (tq : Nat) Yp.1 Yp.2 ft).1.2 ((tq : Nat) + Yp.1.length - 1 : Int)
      refine turned_edit h0 (by omega) ?_
      split
      · omega
      · omega
end Go.Proofs.YtgpmfkedcoiopaaGreatDoor

/-
  What d took is there again when it is put back, as plain facts: layer 14.
-/
namespace Go.Proofs.YtgpmfkedcoiopaaGreatDoor
open Go.RowKit

theorem cut_none {U : List UInt8} {q : List RunP} (hg : goodT U q = true) {F : Nat} (hF : F ≤ U.length) : cutOf U q (F : Int) (F : Int) = (([], []), 0) := by
  unfold cutOf
  rw [if_pos (within_nat hg (Nat.le_refl _) hF)]
  have h1 : ((F : Int) - (F : Int)).toNat = 0 := by omega
  have h2 : cut (bytesOf q) (F : Int) (F : Int) = [] := by
    unfold cut
    rw [h1, List.take_zero]
  rw [h1, List.take_zero, h2]
  rfl
/-- a text that is laid at a place, and is taken in by the edit that makes it -/
theorem lay_made {U S X : List UInt8} {q l m : List RunP} {y F : Nat} (hg : goodT U q = true) (hF : F ≤ U.length) (h : applyE U q (F : Int) [] [] X m = ((S, l), 0)) :
    (turnedM U q y (F : Int) (F : Int) X m true).2 = 0 ∧ (turnedM U q y (F : Int) (F : Int) X m true).1.1 = ⟨(F : Int), [], [], X, m⟩ := by
  have hc := cut_none hg hF
  have ha := applyE_ok (S := U) (l := q) (U := []) (q := []) (X := X) (m := m) (a := (F : Int)) (by rw [h])
  have hs : (spliceT U q (F : Int) (F : Int) X m).2 = 0 := by
    have e := ha.2
    rw [h] at e
    have e2 : ((F : Int) + (([] : List UInt8).length : Int)) = (F : Int) := by simp
    rw [e2] at e
    rw [← e]
  have ho : ofE U q (F : Int) (F : Int) X m = (⟨(F : Int), [], [], X, m⟩, 0) := by
    unfold ofE
    rw [hc]
    dsimp only
    rw [if_pos rfl, if_pos hs]
  unfold turnedM
  rw [if_neg (by decide), ho]
  exact ⟨rfl, rfl⟩
theorem times_one {X : List UInt8} {m : List RunP} (hg : goodT X m = true) : timesM [(X, m)] 1 = some (X, m) := by
  have hs := goodT_size hg
  have hb := goodB_eq ((goodT_iff X m).1 hg).1
  have hp : pileM [(X, m)] = some (X, m) := by
    unfold pileM
    have e1 : goodC [(X, m)] = true := by unfold goodC; simp [hg]
    have e2 : bytesC [(X, m)] = X := by unfold bytesC; simp
    have e3 : labsC [(X, m)] = bytesOf m := by unfold labsC; simp
    rw [e1, e2, e3, hb, if_pos ⟨rfl, hs.1⟩]
  unfold timesM
  rw [hp]
  dsimp only
  rw [if_pos (by omega)]
  exact hp
/-- d of some bytes, and what it took put at its place -/
theorem back_put {S : List UInt8} {l : List RunP} {y : Nat} {f t : Int} (h : (doM S l y 100 f t false).2 = 0) :
    ∃ U q, applyE S l (doM S l y 100 f t false).1.E.a (doM S l y 100 f t false).1.E.S (doM S l y 100 f t false).1.E.l (doM S l y 100 f t false).1.E.X (doM S l y 100 f t false).1.E.m = ((U, q), 0) ∧ goodT U q = true ∧ goodT (doM S l y 100 f t false).1.RS (doM S l y 100 f t false).1.rl = true ∧ (doM S l y 100 f t false).1.lines = false ∧
      ((alignM (viewOf U q y).1 (doM S l y 100 f t false).1.at_ : Nat) = (doM S l y 100 f t false).1.at_ →
        (putM U q y (doM S l y 100 f t false).1.at_ (doM S l y 100 f t false).1.RS (doM S l y 100 f t false).1.rl (doM S l y 100 f t false).1.lines true 1).2 = 0 ∧
        ∃ E, (putM U q y (doM S l y 100 f t false).1.at_ (doM S l y 100 f t false).1.RS (doM S l y 100 f t false).1.rl (doM S l y 100 f t false).1.lines true 1).1.E = E ∧ applyE U q E.a E.S E.l E.X E.m = ((S, l), 0)) := by
  have hn : ¬ ((viewOf S l y).2 ≠ 0 ∨ rightM (viewOf S l y).1 f t false = false) := fun e => by
    unfold doM at h
    dsimp only at h
    rw [if_pos e] at h
    exact absurd h (by decide)
  have h0 : (viewOf S l y).2 = 0 := Decidable.byContradiction fun e => hn (.inl e)
  have hr : rightM (viewOf S l y).1 f t false = true := by
    cases h : rightM (viewOf S l y).1 f t false with
    | true => rfl
    | false => exact absurd (.inr h) hn
  have hg : goodT S l = true := by
    unfold viewOf at h0
    split at h0
    · next hg => exact hg
    · exact absurd h0 (by decide)
  have hvs := view_same h0
  have hvl := view_len S l y
  unfold rightM at hr
  rw [if_neg (by decide)] at hr
  have hr := of_decide_eq_true hr
  obtain ⟨F, rfl⟩ : ∃ F : Nat, f = F := ⟨f.toNat, by omega⟩
  obtain ⟨E, rfl⟩ : ∃ E : Nat, t = E := ⟨t.toNat, by omega⟩
  have hFE : F ≤ E := by omega
  have hE : E ≤ S.length := by omega
  have hd := turned_del hg hFE hE y
  obtain ⟨_, ka, kw, _, ks, kX, km, kc, kap, _, _⟩ := turned_ok hd
  have hdo : doM S l y 100 (F : Int) (E : Int) false = (⟨(turnedM S l y (F : Int) (E : Int) [] [] true).1.1, (cutOf S l (F : Int) (E : Int)).1.1, (cutOf S l (F : Int) (E : Int)).1.2, false, false || decide (1 < countL (((viewOf S l y).1.drop (F : Int).toNat).take ((E : Int).toNat - (F : Int).toNat))), (F : Int)⟩, 0) := by
    unfold doM
    dsimp only
    rw [if_neg hn, if_pos (.inl rfl)]
    rfl
  rw [hdo]
  dsimp only
  have hgs := splice_good ks
  have hl := splice_len ks
  rcases hE1 : (turnedM S l y (F : Int) (E : Int) [] [] true).1.1 with ⟨a, CS, cl, X, m⟩
  rw [hE1] at ka kX km kc kap
  dsimp only at ka kX km kc kap
  subst ka kX km
  rcases hsp : spliceT S l (F : Int) (E : Int) [] [] with ⟨⟨U, q⟩, z⟩
  rw [hsp] at kap ks hgs hl
  dsimp only at ks hgs hl
  subst ks
  have hcg : goodT CS cl = true := by
    have := cut_none (F := 0) hg (Nat.zero_le _)
    have hcz : (cutOf S l (F : Int) (E : Int)).2 = 0 := by rw [kc]
    have hw := cutOf_zero hcz
    have h4 := withinT_of hw
    have gs := goodT_size hg
    have hcl := cut_len (b := bytesOf l) h4.2.1 h4.2.2.1 (by omega)
    unfold cutOf at kc
    rw [if_pos hw] at kc
    have e1 := congrArg (fun x => x.1.1) kc
    have e2 := congrArg (fun x => x.1.2) kc
    dsimp only at e1 e2
    rw [← e1, ← e2]
    refine (goodT_iff _ _).2 ⟨goodB_pack (by omega), ?_⟩
    rw [bytesOf_pack, List.length_take, List.length_drop]
    omega
  refine ⟨U, q, kap, hgs, by rw [kc]; exact hcg, rfl, fun hal => ?_⟩
  rw [kc]
  dsimp only
  have hUl : F ≤ U.length := by simp at hl; omega
  have hback := back_ok kap
  obtain ⟨l1, l2⟩ := lay_made (y := y) hgs hUl hback
  have hvU : (viewOf U q y).2 = 0 := by unfold viewOf; rw [if_pos hgs]
  have hto : putTo (viewOf U q y).1 (alignM (viewOf U q y).1 (F : Int)) true = F := by
    unfold putTo
    rw [if_neg (fun e => absurd e.1 (by decide))]
    omega
  have hlm : layM U q y (putTo (viewOf U q y).1 (alignM (viewOf U q y).1 (F : Int)) true) (timesM [(CS, cl)] (manyM 1)) = turnedM U q y (F : Int) (F : Int) CS cl true := by
    rw [hto, show manyM 1 = 1 by decide, times_one hcg]
    rfl
  unfold putM
  rw [if_neg (show ¬ ((viewOf U q y).2 ≠ 0 ∨ goodT CS cl = false) from fun e => by rcases e with e | e; exact e hvU; rw [hcg] at e; cases e), if_neg (by decide), hlm, if_pos l1]
  refine ⟨rfl, _, rfl, ?_⟩
  dsimp only
  rw [l2]
  exact hback
end Go.Proofs.YtgpmfkedcoiopaaGreatDoor

/-
  What operators do to texts that are alike for a level, as plain facts: layer 14.
-/
namespace Go.Proofs.YtgpmfkedcoiopaaGreatDoor
open Go.RowKit

/-- two texts under the very same runs: both good, or neither; if they are, alike for a level -/
def Alk (y : Nat) (x x' : TP) : Prop := x.2 = x'.2 ∧ goodT x.1 x.2 = goodT x'.1 x'.2 ∧ (goodT x.1 x.2 = true → LikeT x.1 x'.1 (bytesOf x.2) y)
inductive AlkL (y : Nat) : List TP → List TP → Prop
  | nil : AlkL y [] []
  | cons {x x' : TP} {L L' : List TP} : Alk y x x' → AlkL y L L' → AlkL y (x :: L) (x' :: L')
section
variable {y : Nat} {L L' M M' : List TP} {x x' : TP}
theorem Alk.refl (x : TP) : Alk y x x := ⟨rfl, rfl, fun hg => ⟨(goodT_size hg).2.2, (goodT_size hg).2.2, rfl⟩⟩
theorem Alk.low (h : Alk y x x') (hg : goodT x.1 x.2 = true) : lowT x.1 x'.1 x.2 x'.2 y = true := by
  obtain ⟨h1, h2, h3⟩ := h
  unfold lowT
  rw [decide_eq_true_iff, ← h1]
  exact ⟨hg, by rw [h1, ← h2]; exact hg, rfl, (h3 hg).same⟩
theorem AlkL.one (h : Alk y x x') : AlkL y [x] [x'] := .cons h .nil
theorem AlkL.append (h : AlkL y L L') (k : AlkL y M M') : AlkL y (L ++ M) (L' ++ M') := by
  induction h with
  | nil => exact k
  | cons hx _ ih => exact .cons hx ih
theorem AlkL.many (h : Alk y x x') : ∀ n, AlkL y (List.replicate n x) (List.replicate n x')
  | 0 => .nil
  | n + 1 => .cons h (AlkL.many h n)
theorem AlkL.labs (h : AlkL y L L') : labsC L = labsC L' := by
  induction h with
  | nil => rfl
  | cons hx _ ih =>
    unfold labsC at ih ⊢
    rw [List.flatMap_cons, List.flatMap_cons, ih, hx.1]
theorem AlkL.good (h : AlkL y L L') : goodC L = goodC L' := by
  induction h with
  | nil => rfl
  | cons hx _ ih =>
    unfold goodC at ih ⊢
    rw [List.all_cons, List.all_cons, ih, hx.2.1]
theorem AlkL.like (h : AlkL y L L') (hg : goodC L = true) : LikeT (bytesC L) (bytesC L') (labsC L) y := by
  induction h with
  | nil => exact ⟨rfl, rfl, rfl⟩
  | cons hx _ ih =>
    unfold goodC at hg ih
    rw [List.all_cons, Bool.and_eq_true] at hg
    have h1 := hx.2.2 hg.1
    have h2 := ih hg.2
    unfold bytesC labsC at h2 ⊢
    rw [List.flatMap_cons, List.flatMap_cons, List.flatMap_cons]
    exact h1.append h2
theorem LikeT.len {S T : List UInt8} {bs : List Nat} (h : LikeT S T bs y) : S.length = T.length := by rw [← h.hS, h.hT]
/-- piles of alike texts -/
theorem alk_pile (h : AlkL y L L') : (pileM L).isSome = (pileM L').isSome ∧ Alk y ((pileM L).getD ([], [])) ((pileM L').getD ([], [])) := by
  unfold pileM
  rw [← h.good, ← h.labs]
  by_cases hg : goodC L = true
  · have hl := (h.like hg).len
    rw [← hl]
    by_cases hc : (bytesC L).length ≤ 4096
    · rw [if_pos ⟨hg, hc⟩, if_pos ⟨hg, hc⟩]
      refine ⟨rfl, rfl, ?_, fun _ => ?_⟩
      · show goodT (bytesC L) (pack (labsC L)) = goodT (bytesC L') (pack (labsC L))
        unfold goodT
        rw [hl]
      · show LikeT (bytesC L) (bytesC L') (bytesOf (pack (labsC L))) y
        rw [bytesOf_pack]
        exact h.like hg
    · rw [if_neg (fun e => hc e.2), if_neg (fun e => hc e.2)]
      exact ⟨rfl, Alk.refl _⟩
  · rw [if_neg (fun e => hg e.1), if_neg (fun e => hg e.1)]
    exact ⟨rfl, Alk.refl _⟩
theorem alk_times (h : AlkL y L L') (n : Nat) : (timesM L n).isSome = (timesM L' n).isSome ∧ Alk y ((timesM L n).getD ([], [])) ((timesM L' n).getD ([], [])) := by
  obtain ⟨h1, h2⟩ := alk_pile h
  unfold timesM
  cases hp : pileM L with
  | none =>
    cases hp2 : pileM L' with
    | none => exact ⟨rfl, Alk.refl _⟩
    | some Y => rw [hp, hp2] at h1; cases h1
  | some x =>
    cases hp2 : pileM L' with
    | none => rw [hp, hp2] at h1; cases h1
    | some x' =>
      rw [hp, hp2] at h2
      have h2 : Alk y x x' := h2
      have hl := (h2.2.2 (pile_good (S := x.1) (l := x.2) hp)).len
      dsimp only
      rw [← hl]
      by_cases hc : x.1.length * n ≤ 4096
      · rw [if_pos hc, if_pos hc]
        exact alk_pile (AlkL.many h2 n)
      · rw [if_neg hc, if_neg hc]
        exact ⟨rfl, Alk.refl _⟩
end
/-- a good text, and another one that is alike for a level -/
structure Twin (S T : List UInt8) (l : List RunP) (y : Nat) : Prop where
  g : goodT S l = true
  gT : goodT T l = true
  k : LikeT S T (bytesOf l) y
section
variable {S T : List UInt8} {l : List RunP} {y : Nat}
theorem Twin.view (h : Twin S T l y) : viewOf S l y = viewOf T l y := by
  unfold viewOf
  rw [if_pos h.g, if_pos h.gT, h.k.same]
theorem Twin.within (h : Twin S T l y) (f t : Int) : withinT S l f t = withinT T l f t := by
  unfold withinT
  rw [h.g, h.gT, h.k.len]
theorem Twin.cutT (h : Twin S T l y) (f t : Int) : (cutOf S l f t).2 = (cutOf T l f t).2 ∧ Alk y (cutOf S l f t).1 (cutOf T l f t).1 := by
  unfold cutOf
  rw [← h.within]
  by_cases hw : withinT S l f t = true
  · rw [if_pos hw, if_pos hw]
    obtain ⟨_, h0, h1, h2⟩ := withinT_of hw
    have gs := goodT_size h.g
    have hc := cut_len (b := bytesOf l) h0 h1 (by omega)
    have hk := (h.k.drop f.toNat).take (t - f).toNat
    have hlt := h.k.len
    refine ⟨rfl, rfl, ?_, fun _ => ?_⟩
    · show goodT _ _ = goodT _ _
      unfold goodT
      rw [hk.len]
    · show LikeT _ _ (bytesOf (pack (cut (bytesOf l) f t))) y
      rw [bytesOf_pack]
      exact hk
  · rw [if_neg hw, if_neg hw]
    exact ⟨rfl, Alk.refl _⟩
theorem cut_good {f t : Int} (h : (cutOf S l f t).2 = 0) : goodT (cutOf S l f t).1.1 (cutOf S l f t).1.2 = true := by
  have hw := cutOf_zero h
  obtain ⟨hg, h0, h1, h2⟩ := withinT_of hw
  have gs := goodT_size hg
  have hc := cut_len (b := bytesOf l) h0 h1 (by omega)
  unfold cutOf
  rw [if_pos hw]
  refine (goodT_iff _ _).2 ⟨goodB_pack (by omega), ?_⟩
  rw [bytesOf_pack]
  show (cut (bytesOf l) f t).length = ((S.drop f.toNat).take (t - f).toNat).length
  rw [List.length_take, List.length_drop]
  omega
/-- texts in place of bytes of alike texts -/
theorem Twin.splice (h : Twin S T l y) {X X' : List UInt8} {m : List RunP} (hX : Alk y (X, m) (X', m)) (f t : Int) : (spliceT S l f t X m).2 = (spliceT T l f t X' m).2 ∧ ((spliceT S l f t X m).2 = 0 → Twin (spliceT S l f t X m).1.1 (spliceT T l f t X' m).1.1 (spliceT S l f t X m).1.2 y) ∧ (spliceT S l f t X m).1.2 = (spliceT T l f t X' m).1.2 := by
  have hgx : goodT X m = goodT X' m := hX.2.1
  have key : (spliceT S l f t X m).2 = (spliceT T l f t X' m).2 ∧ ((spliceT S l f t X m).2 = 0 → LikeT (spliceT S l f t X m).1.1 (spliceT T l f t X' m).1.1 (bytesOf (spliceT S l f t X m).1.2) y) ∧ (spliceT S l f t X m).1.2 = (spliceT T l f t X' m).1.2 := by
    unfold spliceT
    rw [← h.within, ← hgx]
    by_cases hw : withinT S l f t = true ∧ goodT X m = true
    · have hx := hX.2.2 hw.2
      have hxl : X.length = X'.length := hx.len
      rw [if_pos hw, if_pos hw, ← h.k.len, ← hxl]
      by_cases hb : (S.length : Int) - (t - f) + (X.length : Int) ≤ 4096
      · rw [if_pos hb, if_pos hb]
        refine ⟨rfl, fun _ => ?_, rfl⟩
        show LikeT _ _ (bytesOf (pack _)) y
        rw [bytesOf_pack]
        exact ((h.k.take f.toNat).append hx).append (h.k.drop t.toNat)
      · rw [if_neg hb, if_neg hb]
        exact ⟨rfl, fun e => absurd e (by decide), rfl⟩
    · rw [if_neg hw, if_neg hw]
      exact ⟨rfl, fun e => absurd e (by decide), rfl⟩
  obtain ⟨k1, k2, k3⟩ := key
  refine ⟨k1, fun h0 => ⟨splice_good h0, ?_, k2 h0⟩, k3⟩
  have := splice_good (k1 ▸ h0 : (spliceT T l f t X' m).2 = 0)
  rw [k3]
  exact this
end
/-- edits that are alike for a level -/
def LowE (y : Nat) (E E' : EdP) : Prop := E.a = E'.a ∧ lowT E.S E'.S E.l E'.l y = true ∧ lowT E.X E'.X E.m E'.m y = true
theorem low_nil (y : Nat) : lowT [] [] [] [] y = true := by unfold lowT; rw [decide_eq_true_iff]; exact ⟨goodT_nil, goodT_nil, rfl, rfl⟩
theorem LowE.zero (y : Nat) : LowE y edit0 edit0 := ⟨rfl, low_nil y, low_nil y⟩
theorem Twin.turned {S T : List UInt8} {l : List RunP} {y : Nat} (h : Twin S T l y) {X X' : List UInt8} {m : List RunP} (hX : Alk y (X, m) (X', m)) (f e : Int) (b : Bool) :
    (turnedM S l y f e X m b).2 = (turnedM T l y f e X' m b).2 ∧ (turnedM S l y f e X m b).1.2 = (turnedM T l y f e X' m b).1.2 ∧ LowE y (turnedM S l y f e X m b).1.1 (turnedM T l y f e X' m b).1.1 := by
  obtain ⟨s1, s2, s3⟩ := h.splice hX f e
  obtain ⟨c1, c2⟩ := h.cutT f e
  unfold turnedM
  cases b with
  | false => exact ⟨rfl, rfl, LowE.zero y⟩
  | true =>
    rw [if_neg (show ¬ (true = false) by decide), if_neg (show ¬ (true = false) by decide)]
    unfold ofE
    rw [← c1, ← s1]
    by_cases hc : (cutOf S l f e).2 = 0
    · rw [if_pos hc, if_pos hc]
      by_cases hs : (spliceT S l f e X m).2 = 0
      · rw [if_pos hs, if_pos hs]
        dsimp only
        rw [if_pos rfl, if_pos rfl]
        refine ⟨rfl, ?_, rfl, ?_, ?_⟩
        · show (viewOf _ _ y).1 = (viewOf _ _ y).1
          rw [← s3]
          rw [(s2 hs).view]
        · exact c2.low (cut_good hc)
        · exact hX.low (spliceT_zero hs).2.1
      · rw [if_neg hs, if_neg hs]
        dsimp only
        rw [if_neg hs, if_neg hs]
        exact ⟨rfl, rfl, LowE.zero y⟩
    · rw [if_neg hc, if_neg hc]
      dsimp only
      rw [if_neg hc, if_neg hc]
      exact ⟨rfl, rfl, LowE.zero y⟩
end Go.Proofs.YtgpmfkedcoiopaaGreatDoor

/-
  What Do, Swap and Put make of texts that are alike for a level is alike for it, as plain facts: layer 14.
-/
namespace Go.Proofs.YtgpmfkedcoiopaaGreatDoor
open Go.RowKit

def LowO (y : Nat) (o o' : OutP) : Prop := LowE y o.E o'.E ∧ lowT o.RS o'.RS o.rl o'.rl y = true ∧ o.lines = o'.lines ∧ o.wide = o'.wide ∧ o.at_ = o'.at_
theorem LowO.zero (y : Nat) : LowO y out0 out0 := ⟨LowE.zero y, low_nil y, rfl, rfl, rfl⟩
section
variable {S T : List UInt8} {l : List RunP} {y : Nat}
theorem Twin.turnedP (h : Twin S T l y) {x x' : TP} (hX : Alk y x x') (f e : Int) {b b' : Bool} (hb : b = b') :
    (turnedM S l y f e x.1 x.2 b).2 = (turnedM T l y f e x'.1 x'.2 b').2 ∧ (turnedM S l y f e x.1 x.2 b).1.2 = (turnedM T l y f e x'.1 x'.2 b').1.2 ∧ LowE y (turnedM S l y f e x.1 x.2 b).1.1 (turnedM T l y f e x'.1 x'.2 b').1.1 := by
  obtain ⟨X, m⟩ := x
  obtain ⟨X', m'⟩ := x'
  have hm : m = m' := hX.1
  subst hm hb
  exact h.turned hX f e b
theorem Twin.cut_low (h : Twin S T l y) (f t : Int) : lowT (cutOf S l f t).1.1 (cutOf T l f t).1.1 (cutOf S l f t).1.2 (cutOf T l f t).1.2 y = true := by
  obtain ⟨h1, h2⟩ := h.cutT f t
  by_cases h0 : (cutOf S l f t).2 = 0
  · exact h2.low (cut_good h0)
  · rw [cutOf_two h0, cutOf_two (h1 ▸ h0)]
    exact low_nil y
theorem LowO.of {E E' : EdP} {n n' : Nat} (hn : n = n') (hE : LowE y E E') {RS RS' : List UInt8} {rl rl' : List RunP} (hr : lowT RS RS' rl rl' y = true) (b c : Bool) {z z' : Int} (hz : z = z') :
    (if n = 0 then ((⟨E, RS, rl, b, c, z⟩ : OutP), 0) else (out0, n)).2 = (if n' = 0 then ((⟨E', RS', rl', b, c, z'⟩ : OutP), 0) else (out0, n')).2 ∧ LowO y (if n = 0 then ((⟨E, RS, rl, b, c, z⟩ : OutP), 0) else (out0, n)).1 (if n' = 0 then ((⟨E', RS', rl', b, c, z'⟩ : OutP), 0) else (out0, n')).1 := by
  subst hn hz
  split
  · exact ⟨rfl, hE, hr, rfl, rfl, rfl⟩
  · exact ⟨rfl, LowO.zero y⟩
theorem Twin.shs (h : Twin S T l y) (V : List UInt8) (op a b : Int) : ∀ k, AlkL y (shList S l V y op a b k) (shList T l V y op a b k)
  | 0 => .nil
  | k + 1 => by
    unfold shList
    refine (Twin.shs h V op a b k).append ?_
    unfold shPiece
    dsimp only
    refine AlkL.append ?_ (AlkL.one (h.cutT _ _).2)
    split
    · exact AlkL.one (Alk.refl _)
    · exact .nil
theorem Twin.jos (h : Twin S T l y) (V : List UInt8) (a : Int) : ∀ k, AlkL y (joList S l V y a k) (joList T l V y a k)
  | 0 => AlkL.one (h.cutT _ _).2
  | k + 1 => by
    unfold joList
    refine (Twin.jos h V a k).append ?_
    unfold joPiece
    dsimp only
    refine AlkL.append ?_ (AlkL.one (h.cutT _ _).2)
    split
    · exact AlkL.one (Alk.refl _)
    · exact .nil
theorem pile_getD_good (L : List TP) : goodT ((pileM L).getD ([], [])).1 ((pileM L).getD ([], [])).2 = true := by
  cases h : pileM L with
  | none => exact goodT_nil
  | some x => exact pile_good (S := x.1) (l := x.2) h
theorem pile_len_like {L L' : List TP} (h : AlkL y L L') : ((pileM L).getD ([], [])).1.length = ((pileM L').getD ([], [])).1.length := ((alk_pile h).2.2.2 (pile_getD_good L)).len
theorem times_len_like {L L' : List TP} (h : AlkL y L L') (n : Nat) : ((timesM L n).getD ([], [])).1.length = ((timesM L' n).getD ([], [])).1.length := by
  have h2 := (alk_times h n).2
  refine (h2.2.2 ?_).len
  unfold timesM
  cases hp : pileM L with
  | none => exact goodT_nil
  | some x =>
    dsimp only
    split
    · exact pile_getD_good _
    · exact goodT_nil
theorem Twin.jo_at (h : Twin S T l y) (V : List UInt8) (a : Int) : ∀ k, joAt S l V y a k = joAt T l V y a k
  | 0 => rfl
  | k + 1 => by
    show (boundsL V a).1.1 + ((pileM (joList S l V y a k)).getD ([], [])).1.length = (boundsL V a).1.1 + ((pileM (joList T l V y a k)).getD ([], [])).1.length
    rw [pile_len_like (h.jos V a k)]
theorem like_at (h : Twin S T l y) {k : Nat} (hk : k < S.length) (hb : subB ((bytesOf l)[k]'(by rw [h.k.hS]; exact hk)) y = true) : S.getD k 0 = T.getD k 0 := by
  have hT : k < T.length := by rw [← h.k.len]; exact hk
  have hv : (viewTo S (bytesOf l) y)[k]'(by rw [viewTo_len h.k.hS]; exact hk) = (viewTo T (bytesOf l) y)[k]'(by rw [viewTo_len h.k.hT]; exact hT) := by
    congr 1; exact h.k.same
  rw [viewTo_get h.k.hS hk, viewTo_get h.k.hT hT, if_pos hb, if_pos hb] at hv
  rw [List.getD_eq_getElem?_getD, List.getD_eq_getElem?_getD, List.getElem?_eq_getElem hk, List.getElem?_eq_getElem hT]
  exact hv
theorem togL_get (S V : List UInt8) (F E k : Nat) (hk : k < (togL S V F E).length) : (togL S V F E)[k] = togB (S.getD (F + k) 0) (V.getD (F + k) 0) := by simp [togL]
theorem Twin.tog (h : Twin S T l y) (V : List UInt8) {F E : Nat} (hFE : F ≤ E) (hE : E ≤ S.length) : Alk y (togL S V F E, (cutOf S l (F : Int) (E : Int)).1.2) (togL T V F E, (cutOf T l (F : Int) (E : Int)).1.2) := by
  have hw := within_nat h.g hFE hE
  have hw2 := hw
  rw [h.within] at hw2
  have hc1 : (cutOf S l (F : Int) (E : Int)).1.2 = pack (cut (bytesOf l) F E) := by unfold cutOf; rw [if_pos hw]
  have hc2 : (cutOf T l (F : Int) (E : Int)).1.2 = pack (cut (bytesOf l) F E) := by unfold cutOf; rw [if_pos hw2]
  have gs := goodT_size h.g
  have hcl := cut_len (b := bytesOf l) (f := (F : Int)) (t := (E : Int)) (by omega) (by omega) (by omega)
  have e1 : (cut (bytesOf l) F E).length = (togL S V F E).length := by rw [togL_len]; omega
  have e2 : (cut (bytesOf l) F E).length = (togL T V F E).length := by rw [togL_len]; omega
  refine ⟨by rw [hc1, hc2], ?_, fun _ => ?_⟩
  · rw [hc1, hc2]
    show goodT (togL S V F E) _ = goodT (togL T V F E) _
    unfold goodT
    rw [togL_len, togL_len]
  · rw [hc1]
    show LikeT (togL S V F E) (togL T V F E) (bytesOf (pack (cut (bytesOf l) F E))) y
    rw [bytesOf_pack]
    refine ⟨e1, e2, ?_⟩
    apply List.ext_getElem
    · rw [viewTo_len e1, viewTo_len e2, togL_len, togL_len]
    · intro k hk1 hk2
      rw [viewTo_len e1] at hk1
      rw [viewTo_len e2] at hk2
      rw [viewTo_get e1 hk1, viewTo_get e2 hk2]
      have hkE : k < E - F := by rw [togL_len] at hk1; exact hk1
      have hcut : (cut (bytesOf l) F E)[k]'(by rw [e1]; exact hk1) = (bytesOf l)[F + k]'(by omega) := by
        unfold cut
        simp
      rw [hcut]
      by_cases hb : subB ((bytesOf l)[F + k]'(by omega)) y = true
      · rw [if_pos hb, if_pos hb]
        rw [togL_get, togL_get]
        rw [like_at h (show F + k < S.length by omega) hb]
      · rw [if_neg hb, if_neg hb]
theorem hide_do (h : Twin S T l y) (op f t : Int) (b : Bool) : (doM S l y op f t b).2 = (doM T l y op f t b).2 ∧ LowO y (doM S l y op f t b).1 (doM T l y op f t b).1 := by
  have hvw := h.view
  have hvl := view_len S l y
  have hvs := view_same (S := S) (l := l) (y := y)
  unfold doM
  rw [← hvw]
  dsimp only
  by_cases hn : (viewOf S l y).2 ≠ 0 ∨ rightM (viewOf S l y).1 f t b = false
  · rw [if_pos hn, if_pos hn]
    exact ⟨rfl, LowO.zero y⟩
  · rw [if_neg hn, if_neg hn]
    have h0 : (viewOf S l y).2 = 0 := Decidable.byContradiction fun e => hn (.inl e)
    have hr : rightM (viewOf S l y).1 f t b = true := by
      cases h : rightM (viewOf S l y).1 f t b with
      | true => rfl
      | false => exact absurd (.inr h) hn
    replace hvs := hvs h0
    obtain ⟨_, _, _, ⟨F, E, q4, q5, q6⟩, _⟩ := right_facts hr hvl
    generalize (viewOf S l y).1 = V at *
    clear hn hvw
    split
    · unfold takenM
      dsimp only
      split
      · exact ⟨rfl, ⟨rfl, low_nil y, low_nil y⟩, h.cut_low _ _, rfl, rfl, rfl⟩
      · split
        · obtain ⟨_, t2, t3⟩ := h.turned (Alk.refl (([], []) : TP)) (wholeL V f t).1.1 (wholeL V f t).1.2 true
          exact ⟨rfl, t3, h.cut_low _ _, rfl, rfl, by show ((firstL _ f : Nat) : Int) = ((firstL _ f : Nat) : Int); rw [t2]⟩
        · exact ⟨rfl, (h.turned (Alk.refl (([], []) : TP)) _ _ true).2.2, h.cut_low _ _, rfl, rfl, rfl⟩
    · split
      · unfold shiftedM
        dsimp only
        have hp := alk_pile (h.shs V op (linesP V f t b).1 (linesP V f t b).2 ((linesP V f t b).2 - (linesP V f t b).1 + 1).toNat)
        obtain ⟨t1, t2, t3⟩ := h.turnedP hp.2 ((boundsL V (linesP V f t b).1).1.1 : Nat) ((boundsL V (linesP V f t b).2).1.2 : Nat) hp.1
        exact LowO.of t1 t3 (low_nil y) false false (by rw [t2])
      · split
        · unfold toggledM
          dsimp only
          rw [q4]
          dsimp only
          rw [Int.toNat_natCast, Int.toNat_natCast]
          obtain ⟨t1, t2, t3⟩ := h.turnedP (h.tog V q5 (by omega)) (F : Int) (E : Int) (rfl : true = true)
          exact LowO.of t1 t3 (low_nil y) false false rfl
        · split
          · unfold joinedM
            dsimp only
            split
            · exact ⟨rfl, LowO.zero y⟩
            · have hp := alk_pile (h.jos V (linesP V f t b).1 (max (linesP V f t b).2 ((linesP V f t b).1 + 1) - (linesP V f t b).1).toNat)
              obtain ⟨t1, t2, t3⟩ := h.turnedP hp.2 ((boundsL V (linesP V f t b).1).1.1 : Nat) (joEnd V (linesP V f t b).1 (max (linesP V f t b).2 ((linesP V f t b).1 + 1) - (linesP V f t b).1).toNat : Nat) hp.1
              exact LowO.of t1 t3 (low_nil y) false false (by rw [h.jo_at])
          · exact ⟨rfl, LowO.zero y⟩
theorem hide_swap (h : Twin S T l y) (p n k : Int) : (swapM S l y p n k).2 = (swapM T l y p n k).2 ∧ LowO y (swapM S l y p n k).1 (swapM T l y p n k).1 := by
  have hvw := h.view
  unfold swapM
  rw [← hvw]
  generalize (viewOf S l y) = vw at *
  split
  · exact ⟨rfl, LowO.zero y⟩
  · split
    · exact ⟨rfl, LowO.zero y⟩
    · generalize swapS k (manyM n) = s at *
      generalize pack (List.replicate s.length y) = q at *
      generalize atM vw.1 (whichM (chars vw.1) p + manyM n) = e at *
      generalize alignM vw.1 p = f at *
      obtain ⟨t1, t2, t3⟩ := h.turned (Alk.refl ((s, q) : TP)) (f : Nat) (e : Nat) true
      exact LowO.of t1 t3 (low_nil y) false false rfl
theorem hide_put (h : Twin S T l y) {X X' : List UInt8} {m : List RunP} (hX : Alk y (X, m) (X', m)) (p : Int) (b ah : Bool) (n : Int) : (putM S l y p X m b ah n).2 = (putM T l y p X' m b ah n).2 ∧ LowO y (putM S l y p X m b ah n).1 (putM T l y p X' m b ah n).1 := by
  have hvw := h.view
  have hg : goodT X m = goodT X' m := hX.2.1
  unfold putM
  rw [← hvw, ← hg]
  generalize (viewOf S l y) = vw at *
  split
  · exact ⟨rfl, LowO.zero y⟩
  · split
    · unfold putLM layM
      have hL : AlkL y (putLst vw.1 (ofL vw.1 (alignM vw.1 p : Nat)) ah X m y) (putLst vw.1 (ofL vw.1 (alignM vw.1 p : Nat)) ah X' m y) := by
        unfold putLst
        split
        · exact .cons hX (AlkL.one (Alk.refl _))
        · exact .cons (Alk.refl _) (AlkL.one hX)
      have hp := alk_times hL (manyM n)
      obtain ⟨t1, t2, t3⟩ := h.turnedP hp.2 (putAt vw.1 (ofL vw.1 (alignM vw.1 p : Nat)) ah : Nat) (putAt vw.1 (ofL vw.1 (alignM vw.1 p : Nat)) ah : Nat) hp.1
      exact LowO.of t1 t3 (low_nil y) false false (by rw [t2])
    · unfold layM
      have hp := alk_times (AlkL.one hX) (manyM n)
      have hl := times_len_like (AlkL.one hX) (manyM n)
      obtain ⟨t1, t2, t3⟩ := h.turnedP hp.2 (putTo vw.1 (alignM vw.1 p) ah : Nat) (putTo vw.1 (alignM vw.1 p) ah : Nat) hp.1
      exact LowO.of t1 t3 (low_nil y) false false (by rw [t2, hl])
end
end Go.Proofs.YtgpmfkedcoiopaaGreatDoor

/-
  Letters that are turned twice are what they were, as plain facts: layer 14.
-/
namespace Go.Proofs.YtgpmfkedcoiopaaGreatDoor
open Go.RowKit

theorem otherB_twice (b : UInt8) : otherB (otherB b) = b := by
  have hb := b.toNat_lt
  apply UInt8.toNat_inj.1
  by_cases h1 : 97 ≤ b.toNat ∧ b.toNat ≤ 122
  · have e1 : (otherB b).toNat = b.toNat - 97 + 65 := by unfold otherB; rw [if_pos h1, UInt8.toNat_ofNat']; omega
    have e2 : (otherB (otherB b)).toNat = (otherB b).toNat - 65 + 97 := by
      unfold otherB at e1 ⊢
      rw [if_pos h1] at e1 ⊢
      rw [if_neg (by omega), if_pos (by omega), UInt8.toNat_ofNat']
      omega
    omega
  · by_cases h2 : 65 ≤ b.toNat ∧ b.toNat ≤ 90
    · have e1 : (otherB b).toNat = b.toNat - 65 + 97 := by unfold otherB; rw [if_neg h1, if_pos h2, UInt8.toNat_ofNat']; omega
      have e2 : (otherB (otherB b)).toNat = (otherB b).toNat - 97 + 65 := by
        unfold otherB at e1 ⊢
        rw [if_neg h1, if_pos h2] at e1 ⊢
        rw [if_pos (by omega), UInt8.toNat_ofNat']
        omega
      omega
    · have e1 : otherB b = b := by unfold otherB; rw [if_neg h1, if_neg h2]
      rw [e1, e1]
theorem otherB_nl (b : UInt8) : otherB b = 10 ↔ b = 10 := by
  constructor
  · intro h
    have := otherB_twice b
    rw [h] at this
    rw [← this]
    decide
  · rintro rfl
    decide
/-- the ends of lines hang on where line ends stand alone -/
theorem ends_same {V W : List UInt8} (hl : V.length = W.length) (h : ∀ i (h1 : i < V.length) (h2 : i < W.length), V[i] = 10 ↔ W[i] = 10) : ∀ k, k ≤ V.length → endsTo V k = endsTo W k
  | 0, _ => rfl
  | k + 1, hk => by
    have ih := ends_same hl h k (by omega)
    by_cases hb : V[k]'(by omega) = 10
    · rw [endsTo_yes (by omega) hb, endsTo_yes (by omega) ((h k (by omega) (by omega)).1 hb), ih]
    · rw [endsTo_no (by omega) hb, endsTo_no (by omega) (fun e => hb ((h k (by omega) (by omega)).2 e)), ih]
theorem lines_same {V W : List UInt8} (hl : V.length = W.length) (h : ∀ i (h1 : i < V.length) (h2 : i < W.length), V[i] = 10 ↔ W[i] = 10) : countL V = countL W ∧ ∀ n, boundsL V n = boundsL W n := by
  have he := ends_same hl h V.length (Nat.le_refl _)
  have hL : endsL V = endsL W := by unfold endsL; rw [he, hl]
  have hc : countL V = countL W := by unfold countL; rw [he, hl]
  refine ⟨hc, fun n => ?_⟩
  unfold boundsL
  rw [hc, hL]
theorem lineW_same {V W : List UInt8} (hl : V.length = W.length) (h : ∀ i (h1 : i < V.length) (h2 : i < W.length), V[i] = 10 ↔ W[i] = 10) (f t : Int) (b : Bool) : rightM V f t b = rightM W f t b ∧ bytesM V f t b = bytesM W f t b := by
  obtain ⟨h1, h2⟩ := lines_same hl h
  unfold rightM bytesM
  rw [h1, hl, h2 f, h2 t]
  exact ⟨rfl, rfl⟩
section
variable {S : List UInt8} {l : List RunP} {y : Nat}
/-- a text with the letters of some bytes turned -/
def togText (S V : List UInt8) (F E : Nat) : List UInt8 := S.take F ++ togL S V F E ++ S.drop E
theorem togText_len {V : List UInt8} {F E : Nat} (hFE : F ≤ E) (hE : E ≤ S.length) : (togText S V F E).length = S.length := by
  unfold togText
  rw [List.length_append, List.length_append, List.length_take, List.length_drop, togL_len]
  omega
theorem togText_get {V : List UInt8} {F E k : Nat} (hFE : F ≤ E) (hE : E ≤ S.length) (hk : k < S.length) : (togText S V F E)[k]'(by rw [togText_len hFE hE]; exact hk) = if F ≤ k ∧ k < E then togB (S.getD k 0) (V.getD k 0) else S[k] := by
  have hl := togL_len S V F E
  unfold togText
  by_cases h1 : k < F
  · rw [if_neg (by omega)]
    rw [List.getElem_append_left (by rw [List.length_append, List.length_take]; omega), List.getElem_append_left (by rw [List.length_take]; omega), List.getElem_take]
  · by_cases h2 : k < E
    · rw [if_pos ⟨by omega, h2⟩]
      rw [List.getElem_append_left (by rw [List.length_append, List.length_take]; omega), List.getElem_append_right (by rw [List.length_take]; omega)]
      have hF : (S.take F).length = F := by rw [List.length_take]; omega
      have e : k - (S.take F).length = k - F := by rw [hF]
      have e2 := togL_get S V F E (k - (S.take F).length) (by rw [hl, hF]; omega)
      rw [e2, e, show F + (k - F) = k by omega]
    · rw [if_neg (by omega)]
      rw [List.getElem_append_right (by rw [List.length_append, List.length_take]; omega), List.getElem_drop]
      congr 1
      rw [List.length_append, List.length_take, hl]
      omega
theorem splice_tog (hg : goodT S l = true) {F E : Nat} (hFE : F ≤ E) (hE : E ≤ S.length) (X : List UInt8) (hX : X.length = E - F) : spliceT S l (F : Int) (E : Int) X (cutOf S l (F : Int) (E : Int)).1.2 = ((S.take F ++ X ++ S.drop E, l), 0) := by
  have hw := within_nat hg hFE hE
  have gs := goodT_size hg
  have hcl := cut_len (b := bytesOf l) (f := (F : Int)) (t := (E : Int)) (by omega) (by omega) (by omega)
  have hc : (cutOf S l (F : Int) (E : Int)).1.2 = pack (cut (bytesOf l) F E) := by unfold cutOf; rw [if_pos hw]
  have hgx : goodT X (pack (cut (bytesOf l) (F : Int) (E : Int))) = true := (goodT_iff _ _).2 ⟨goodB_pack (by omega), by rw [bytesOf_pack]; omega⟩
  rw [hc]
  unfold spliceT
  rw [if_pos ⟨hw, hgx⟩, if_pos (by omega), bytesOf_pack]
  have e1 : (F : Int).toNat = F := by omega
  have e2 : (E : Int).toNat = E := by omega
  have e3 : ((E : Int) - (F : Int)).toNat = E - F := by omega
  have e4 : (bytesOf l).take F ++ cut (bytesOf l) F E ++ (bytesOf l).drop E = bytesOf l := by
    unfold cut
    rw [e1, e3]
    have := parts3 (bytesOf l) F (E - F) (by omega)
    rw [show F + (E - F) = E by omega] at this
    exact this.symm
  rw [e1, e2, e4, goodB_eq ((goodT_iff S l).1 hg).1]
end
end Go.Proofs.YtgpmfkedcoiopaaGreatDoor

/-
  ~ applied twice, as plain facts: layer 14.
-/
namespace Go.Proofs.YtgpmfkedcoiopaaGreatDoor
open Go.RowKit

theorem turned_tog {S : List UInt8} {l : List RunP} (hg : goodT S l = true) {F E : Nat} (hFE : F ≤ E) (hE : E ≤ S.length) (y : Nat) (X : List UInt8) (hX : X.length = E - F) :
    (turnedM S l y (F : Int) (E : Int) X (cutOf S l (F : Int) (E : Int)).1.2 true).2 = 0 ∧ applyE S l (turnedM S l y (F : Int) (E : Int) X (cutOf S l (F : Int) (E : Int)).1.2 true).1.1.a (turnedM S l y (F : Int) (E : Int) X (cutOf S l (F : Int) (E : Int)).1.2 true).1.1.S (turnedM S l y (F : Int) (E : Int) X (cutOf S l (F : Int) (E : Int)).1.2 true).1.1.l (turnedM S l y (F : Int) (E : Int) X (cutOf S l (F : Int) (E : Int)).1.2 true).1.1.X (turnedM S l y (F : Int) (E : Int) X (cutOf S l (F : Int) (E : Int)).1.2 true).1.1.m = ((S.take F ++ X ++ S.drop E, l), 0) := by
  have hs := splice_tog hg hFE hE X hX
  have hc : (cutOf S l (F : Int) (E : Int)).2 = 0 := by unfold cutOf; rw [if_pos (within_nat hg hFE hE)]
  have hz : (turnedM S l y (F : Int) (E : Int) X (cutOf S l (F : Int) (E : Int)).1.2 true).2 = 0 := by
    unfold turnedM
    rw [if_neg (by simp)]
    have ho : (ofE S l (F : Int) (E : Int) X (cutOf S l (F : Int) (E : Int)).1.2).2 = 0 := by
      unfold ofE
      rw [if_pos hc, if_pos (by rw [hs])]
    rw [if_pos ho]
  refine ⟨hz, ?_⟩
  obtain ⟨_, _, _, _, _, _, _, _, kap, _, _⟩ := turned_ok hz
  rw [kap, hs]
theorem do_tog {S : List UInt8} {l : List RunP} {y : Nat} {f t : Int} {b : Bool} {F E : Nat} (hg : goodT S l = true) (hr : rightM (viewOf S l y).1 f t b = true) (hp : bytesM (viewOf S l y).1 f t b = ((F : Int), (E : Int))) (hFE : F ≤ E) (hE : E ≤ S.length) :
    doM S l y 126 f t b = (⟨(turnedM S l y (F : Int) (E : Int) (togL S (viewOf S l y).1 F E) (cutOf S l (F : Int) (E : Int)).1.2 true).1.1, [], [], false, false, (F : Int)⟩, 0) := by
  have h0 : (viewOf S l y).2 = 0 := by unfold viewOf; rw [if_pos hg]
  have hz := (turned_tog hg hFE hE y (togL S (viewOf S l y).1 F E) (togL_len _ _ _ _)).1
  unfold doM
  dsimp only
  rw [if_neg (fun e => by rcases e with e | e; exact e h0; rw [hr] at e; cases e), if_neg (by omega), if_neg (by omega), if_pos rfl]
  unfold toggledM
  rw [hp]
  dsimp only
  rw [Int.toNat_natCast, Int.toNat_natCast, if_pos hz]
theorem view_good {S : List UInt8} {l : List RunP} (hg : goodT S l = true) (y : Nat) : (viewOf S l y).1 = viewTo S (bytesOf l) y := by unfold viewOf; rw [if_pos hg]
theorem there_tog {S : List UInt8} {l : List RunP} {y : Nat} {f t : Int} {b : Bool} (h : (doM S l y 126 f t b).2 = 0) :
    ∃ U, applyE S l (doM S l y 126 f t b).1.E.a (doM S l y 126 f t b).1.E.S (doM S l y 126 f t b).1.E.l (doM S l y 126 f t b).1.E.X (doM S l y 126 f t b).1.E.m = ((U, l), 0) ∧ goodT U l = true ∧ (doM U l y 126 f t b).2 = 0 ∧
      applyE U l (doM U l y 126 f t b).1.E.a (doM U l y 126 f t b).1.E.S (doM U l y 126 f t b).1.E.l (doM U l y 126 f t b).1.E.X (doM U l y 126 f t b).1.E.m = ((S, l), 0) := by
  have hn : ¬ ((viewOf S l y).2 ≠ 0 ∨ rightM (viewOf S l y).1 f t b = false) := fun e => by
    unfold doM at h
    dsimp only at h
    rw [if_pos e] at h
    exact absurd h (by decide)
  have h0 : (viewOf S l y).2 = 0 := Decidable.byContradiction fun e => hn (.inl e)
  have hr : rightM (viewOf S l y).1 f t b = true := by
    cases h : rightM (viewOf S l y).1 f t b with
    | true => rfl
    | false => exact absurd (.inr h) hn
  have hg : goodT S l = true := by
    unfold viewOf at h0
    split at h0
    · next hg => exact hg
    · exact absurd h0 (by decide)
  have hvs := view_same h0
  have hvl := view_len S l y
  obtain ⟨_, _, _, ⟨F, E, q4, q5, q6⟩, _⟩ := right_facts hr hvl
  have hE : E ≤ S.length := by omega
  have gs := goodT_size hg
  have hV := view_good hg y
  rw [do_tog hg hr q4 q5 hE]
  dsimp only
  rw [(turned_tog hg q5 hE y (togL S (viewOf S l y).1 F E) (togL_len _ _ _ _)).2]
  -- what the views show
  have hVk : ∀ k (hk : k < S.length), (viewOf S l y).1.getD k 0 = if subB ((bytesOf l)[k]'(by omega)) y = true then S[k] else 35 := fun k hk => by
    rw [hV, List.getD_eq_getElem?_getD, List.getElem?_eq_getElem (by rw [viewTo_len gs.2.2]; exact hk)]
    exact viewTo_get gs.2.2 hk
  obtain ⟨U, hUe, hUl, hUk⟩ : ∃ U, togText S (viewOf S l y).1 F E = U ∧ U.length = S.length ∧ ∀ k (hk : k < S.length) (hk2 : k < U.length), U[k] = if F ≤ k ∧ k < E ∧ subB ((bytesOf l)[k]'(by omega)) y = true then otherB S[k] else S[k] := by
    refine ⟨_, rfl, togText_len q5 hE, fun k hk hk2 => ?_⟩
    rw [togText_get q5 hE hk]
    by_cases hin : F ≤ k ∧ k < E
    · rw [if_pos hin, hVk k hk]
      have hS : S.getD k 0 = S[k] := by rw [List.getD_eq_getElem?_getD, List.getElem?_eq_getElem hk]; rfl
      rw [hS]
      by_cases hb : subB ((bytesOf l)[k]'(by omega)) y = true
      · rw [if_pos hb, if_pos ⟨hin.1, hin.2, hb⟩]
        unfold togB
        rw [if_pos rfl]
      · rw [if_neg hb, if_neg (fun e => hb e.2.2)]
        unfold togB
        split
        · next e => rw [← e]; decide
        · rfl
    · rw [if_neg hin, if_neg (fun e => hin ⟨e.1, e.2.1⟩)]
  have hgU : goodT U l = true := by
    have := hg
    unfold goodT at this ⊢
    rw [hUl]
    exact this
  refine ⟨U, by rw [← hUe]; rfl, hgU, ?_⟩
  have hW := view_good hgU y
  clear hUe
  have gU := goodT_size hgU
  have hWk : ∀ k (hk : k < S.length), (viewOf U l y).1.getD k 0 = if subB ((bytesOf l)[k]'(by omega)) y = true then U[k]'(by omega) else 35 := fun k hk => by
    rw [hW, List.getD_eq_getElem?_getD, List.getElem?_eq_getElem (by rw [viewTo_len gU.2.2]; omega)]
    exact viewTo_get gU.2.2 (by omega)
  have hWl : (viewOf S l y).1.length = (viewOf U l y).1.length := by rw [hV, hW, viewTo_len gs.2.2, viewTo_len gU.2.2, hUl]
  have hnl : ∀ i (h1 : i < (viewOf S l y).1.length) (h2 : i < (viewOf U l y).1.length), (viewOf S l y).1[i] = 10 ↔ (viewOf U l y).1[i] = 10 := fun i h1 h2 => by
    have hi : i < S.length := by omega
    have e1 := hVk i hi
    have e2 := hWk i hi
    rw [List.getD_eq_getElem?_getD, List.getElem?_eq_getElem h1] at e1
    rw [List.getD_eq_getElem?_getD, List.getElem?_eq_getElem h2] at e2
    have e1 : (viewOf S l y).1[i] = _ := e1
    have e2 : (viewOf U l y).1[i] = _ := e2
    rw [e1, e2, hUk i hi (by omega)]
    by_cases hb : subB ((bytesOf l)[i]'(by omega)) y = true
    · rw [if_pos hb, if_pos hb]
      split
      · exact (otherB_nl _).symm
      · exact Iff.rfl
    · rw [if_neg hb, if_neg hb]
  obtain ⟨w1, w2⟩ := lineW_same hWl hnl f t b
  rw [w1] at hr
  rw [w2] at q4
  have htog : togL U (viewOf U l y).1 F E = (S.drop F).take (E - F) := by
    apply List.ext_getElem
    · rw [togL_len, List.length_take, List.length_drop]; omega
    · intro k hk1 hk2
      rw [togL_len] at hk1
      have hkS : F + k < S.length := by omega
      rw [togL_get, hWk (F + k) hkS, List.getElem_take, List.getElem_drop]
      have hUd : U.getD (F + k) 0 = U[F + k]'(by omega) := by rw [List.getD_eq_getElem?_getD, List.getElem?_eq_getElem (by omega)]; rfl
      rw [hUd]
      have hu := hUk (F + k) hkS (by omega)
      by_cases hb : subB ((bytesOf l)[F + k]'(by omega)) y = true
      · rw [if_pos hb]
        rw [if_pos ⟨by omega, by omega, hb⟩] at hu
        unfold togB
        rw [if_pos rfl, hu, otherB_twice]
      · rw [if_neg hb]
        rw [if_neg (fun e => hb e.2.2)] at hu
        unfold togB
        rw [hu]
        split
        · next e => rw [← e]; decide
        · rfl
  rw [do_tog hgU hr q4 q5 (by omega)]
  dsimp only
  rw [(turned_tog hgU q5 (by omega) y (togL U (viewOf U l y).1 F E) (togL_len _ _ _ _)).2]
  refine ⟨rfl, ?_⟩
  have hout : ∀ k (hk : k < S.length), ¬ (F ≤ k ∧ k < E) → U[k]'(by omega) = S[k] := fun k hk hno => by
    rw [hUk k hk (by omega), if_neg (fun e => hno ⟨e.1, e.2.1⟩)]
  have t1 : U.take F = S.take F := by
    apply List.ext_getElem
    · rw [List.length_take, List.length_take, hUl]
    · intro k hk1 hk2
      rw [List.length_take] at hk1
      rw [List.getElem_take, List.getElem_take]
      exact hout k (by omega) (by omega)
  have t2 : U.drop E = S.drop E := by
    apply List.ext_getElem
    · rw [List.length_drop, List.length_drop, hUl]
    · intro k hk1 hk2
      rw [List.length_drop] at hk1
      rw [List.getElem_drop, List.getElem_drop]
      exact hout (E + k) (by omega) (by omega)
  rw [htog, t1, t2]
  have hp := parts3 S F (E - F) (by omega)
  rw [show F + (E - F) = E by omega] at hp
  rw [← hp]
end Go.Proofs.YtgpmfkedcoiopaaGreatDoor

/-
  The lines of a text that has a tab ahead of some of its lines, as plain lists: layer 14.
-/
namespace Go.Proofs.YtgpmfkedcoiopaaGreatDoor
open Go.RowKit

/-- where a line ends is told by how many line ends stand ahead -/
theorem end_unique {S : List UInt8} {n x : Nat} (hx : x ≤ S.length) (hc : (S.take x).count 10 = n) (h : x = S.length ∨ S[x]? = some 10) : endL S n = x := by
  rw [← endsTo_count] at hc
  rcases Nat.lt_or_ge x S.length with hl | hl
  · have h2 : S[x]? = some 10 := h.resolve_left (by omega)
    have h3 := endsTo_has (S := S) (k := S.length) hl h2
    rw [hc] at h3
    have hn : n < (endsTo S S.length).length := by
      rcases Nat.lt_or_ge n (endsTo S S.length).length with h' | h'
      · exact h'
      · rw [List.getElem?_eq_none h'] at h3; cases h3
    unfold endL endsL
    rw [List.getD_eq_getElem?_getD, List.getElem?_append_left hn, h3]
    rfl
  · obtain rfl : x = S.length := by omega
    exact ends_last (by unfold countL; omega)
theorem end_count {S : List UInt8} {n : Nat} (h : n < countL S) : (S.take (endL S n)).count 10 = n := by
  rw [← endsTo_count]
  rcases Nat.lt_or_ge (n + 1) (countL S) with h1 | h1
  · exact (ends_inner h1).2.2
  · rw [ends_last (by omega)]
    unfold countL at h h1
    omega
/-- a tab at a place -/
def insT (W : List UInt8) (p : Nat) : List UInt8 := W.take p ++ [9] ++ W.drop p
theorem insT_len (W : List UInt8) (p : Nat) : (insT W p).length = W.length + 1 := by
  unfold insT
  simp only [List.length_append, List.length_take, List.length_drop, List.length_singleton]
  omega
theorem insT_count (W : List UInt8) (p : Nat) : countL (insT W p) = countL W := by
  rw [countL_count, countL_count]
  unfold insT
  rw [List.count_append, List.count_append]
  have h := congrArg (List.count 10) (List.take_append_drop p W)
  rw [List.count_append] at h
  have h9 : List.count (10 : UInt8) [9] = 0 := by decide
  omega
theorem insT_ahead {W : List UInt8} {p e : Nat} (hp : p ≤ W.length) (he : e < p) : (insT W p).take e = W.take e ∧ (insT W p)[e]? = W[e]? := by
  have hl : (W.take p).length = p := by rw [List.length_take]; omega
  unfold insT
  rw [List.append_assoc]
  constructor
  · rw [List.take_append_of_le_length (by omega), List.take_take, Nat.min_eq_left (by omega)]
  · rw [List.getElem?_append_left (by omega), List.getElem?_take, if_pos he]
theorem insT_behind {W : List UInt8} {p e : Nat} (hp : p ≤ W.length) (he : p ≤ e) : (insT W p).take (e + 1) = W.take p ++ [9] ++ (W.drop p).take (e - p) ∧ (insT W p)[e + 1]? = W[e]? := by
  have hl : (W.take p ++ [(9 : UInt8)]).length = p + 1 := by rw [List.length_append, List.length_take, List.length_singleton]; omega
  unfold insT
  constructor
  · rw [List.take_append, hl, List.take_of_length_le (by omega), show e + 1 - (p + 1) = e - p by omega]
  · rw [List.getElem?_append_right (by omega), hl, List.getElem?_drop, show p + (e + 1 - (p + 1)) = e by omega]
theorem insT_end {W : List UInt8} {n m : Nat} (hn : n < countL W) (hm : m < countL W) : endL (insT W (begL W n)) m = endL W m + (if n ≤ m then 1 else 0) := by
  have hp := beg_le hn
  have he := end_le hm
  have hc := end_count hm
  have hl := insT_len W (begL W n)
  by_cases h : n ≤ m
  · rw [if_pos h]
    have h1 : begL W n ≤ endL W m := Nat.le_trans (beg_mono h hm) (beg_end hm)
    obtain ⟨t1, t2⟩ := insT_behind hp h1
    refine end_unique (by omega) ?_ ?_
    · rw [t1, List.count_append, List.count_append]
      have h9 : List.count (10 : UInt8) [9] = 0 := by decide
      have e : W.take (endL W m) = W.take (begL W n) ++ (W.drop (begL W n)).take (endL W m - begL W n) := by
        have := List.take_add (l := W) (i := begL W n) (j := endL W m - begL W n)
        rwa [show begL W n + (endL W m - begL W n) = endL W m by omega] at this
      rw [e, List.count_append] at hc
      omega
    · rcases end_is hm with h2 | h2
      · left; omega
      · right; rw [t2, h2]
  · rw [if_neg h, Nat.add_zero]
    have h1 : endL W m < begL W n := by
      have := beg_mono (show m + 1 ≤ n by omega) hn
      rw [beg_succ] at this
      omega
    obtain ⟨t1, t2⟩ := insT_ahead hp h1
    refine end_unique (by omega) (by rw [t1]; exact hc) ?_
    rcases end_is hm with h2 | h2
    · omega
    · right; rw [t2, h2]
theorem insT_beg {W : List UInt8} {n m : Nat} (hn : n < countL W) (hm : m < countL W) : begL (insT W (begL W n)) m = begL W m + (if n < m then 1 else 0) := by
  cases m with
  | zero => rw [beg_zero, beg_zero, if_neg (by omega)]
  | succ m =>
    rw [beg_succ, beg_succ, insT_end hn (by omega)]
    by_cases h : n ≤ m
    · rw [if_pos h, if_pos (by omega)]
    · rw [if_neg h, if_neg (by omega)]

/-! Lines f to t with a tab ahead of those that have bytes. -/
section
variable {α : Type} (X : List α) (c : α) (bg en : Nat → Nat) (f t : Nat)
/-- where the part that is taken next begins -/
def ekG (k : Nat) : Nat := if f + k ≤ t then bg (f + k) else en t
/-- line number f + k: the tab, and the line -/
def pcG (k : Nat) : List α := (if bg (f + k) < en (f + k) then [c] else []) ++ (X.drop (bg (f + k))).take (ekG bg en f t (k + 1) - bg (f + k))
def shG : Nat → List α
  | 0 => []
  | k + 1 => shG k ++ pcG X c bg en f t k
/-- how many tabs lie ahead of line m -/
def tbG (m : Nat) : Nat → Nat
  | 0 => 0
  | k + 1 => tbG m k + (if bg (f + k) < en (f + k) ∧ f + k < m then 1 else 0)
end
theorem tbG_same {bg en : Nat → Nat} {f m k j : Nat} (hk : m ≤ f + k) (hj : k ≤ j) : tbG bg en f m j = tbG bg en f m k := by
  induction hj with
  | refl => rfl
  | @step j hj ih =>
    have hj' : k ≤ j := hj
    show tbG bg en f m j + _ = _
    rw [ih, if_neg (by omega), Nat.add_zero]
theorem tbG_zero {bg en : Nat → Nat} {f : Nat} : ∀ k, tbG bg en f f k = 0
  | 0 => rfl
  | k + 1 => by
    show tbG bg en f f k + _ = 0
    rw [tbG_zero k, if_neg (by omega)]
theorem tbG_big {bg en : Nat → Nat} {f m m' : Nat} : ∀ k, f + k ≤ m → f + k ≤ m' → tbG bg en f m k = tbG bg en f m' k
  | 0, _, _ => rfl
  | k + 1, h1, h2 => by
    show tbG bg en f m k + _ = tbG bg en f m' k + _
    rw [tbG_big (m := m) (m' := m') k (by omega) (by omega)]
    by_cases h : bg (f + k) < en (f + k)
    · rw [if_pos ⟨h, by omega⟩, if_pos ⟨h, by omega⟩]
    · rw [if_neg (fun e => h e.1), if_neg (fun e => h e.1)]
/-- what tabs lie ahead of the next line -/
theorem tbG_line {bg en : Nat → Nat} {f k K : Nat} (h : k < K) : tbG bg en f (f + k) K = tbG bg en f (f + k) k ∧ tbG bg en f (f + k + 1) K = tbG bg en f (f + k) k + (if bg (f + k) < en (f + k) then 1 else 0) := by
  refine ⟨tbG_same (Nat.le_refl _) (by omega), ?_⟩
  rw [tbG_same (show f + k + 1 ≤ f + (k + 1) by omega) (show k + 1 ≤ K by omega)]
  show tbG bg en f (f + k + 1) k + _ = _
  rw [tbG_big k (show f + k ≤ f + k + 1 by omega) (Nat.le_refl (f + k))]
  by_cases h : bg (f + k) < en (f + k)
  · rw [if_pos ⟨h, by omega⟩, if_pos h]
  · rw [if_neg (fun e => h e.1), if_neg h]
/-- lines as places: each ends behind where it begins, and ahead of the next -/
structure LnsG (bg en : Nat → Nat) (f t L : Nat) : Prop where
  ft : f ≤ t
  be : ∀ n, n ≤ t → bg n ≤ en n
  nx : ∀ n, n < t → en n < bg (n + 1)
  last : en t ≤ L
theorem LnsG.ek {bg en : Nat → Nat} {f t L : Nat} (h : LnsG bg en f t L) {k : Nat} (hk : f + k ≤ t) : ekG bg en f t k = bg (f + k) ∧ bg (f + k) ≤ en (f + k) ∧ en (f + k) ≤ ekG bg en f t (k + 1) ∧ ekG bg en f t (k + 1) ≤ L := by
  have h1 := h.be (f + k) hk
  have key : ∀ d n, n + d = t → bg n ≤ L ∧ en n ≤ L := by
    intro d
    induction d with
    | zero => intro n hn; obtain rfl : n = t := by omega
              have := h.be n (Nat.le_refl _); have := h.last; omega
    | succ d ih =>
      intro n hn
      have h2 := ih (n + 1) (by omega)
      have h3 := h.nx n (by omega)
      have h4 := h.be n (by omega)
      omega
  refine ⟨if_pos hk, h1, ?_, ?_⟩
  · unfold ekG
    by_cases h2 : f + (k + 1) ≤ t
    · rw [if_pos h2]
      have := h.nx (f + k) (by omega)
      exact Nat.le_of_lt this
    · rw [if_neg h2, show f + k = t by omega]
      exact Nat.le_refl _
  · unfold ekG
    by_cases h2 : f + (k + 1) ≤ t
    · rw [if_pos h2]
      exact (key (t - (f + (k + 1))) _ (by omega)).1
    · rw [if_neg h2]
      exact h.last
section
variable {α : Type} {X : List α} {c : α} {bg en : Nat → Nat} {f t : Nat}
/-- all up to line f + k, with the tabs -/
def qG (X : List α) (c : α) (bg en : Nat → Nat) (f t k : Nat) : List α := X.take (bg f) ++ shG X c bg en f t k
def wG (X : List α) (c : α) (bg en : Nat → Nat) (f t k : Nat) : List α := qG X c bg en f t k ++ X.drop (ekG bg en f t k)
theorem takeG_mid (X : List α) {a b : Nat} (h : a ≤ b) : (X.drop a).take (b - a) ++ X.drop b = X.drop a := by
  have := List.take_append_drop (b - a) (X.drop a)
  rwa [List.drop_drop, show a + (b - a) = b by omega] at this
theorem takeG_more (X : List α) {a b : Nat} (h : a ≤ b) : X.take a ++ (X.drop a).take (b - a) = X.take b := by
  have := List.take_add (l := X) (i := a) (j := b - a)
  rw [show a + (b - a) = b by omega] at this
  exact this.symm
theorem qG_len (h : LnsG bg en f t X.length) : ∀ k, f + k ≤ t + 1 → (qG X c bg en f t k).length = ekG bg en f t k + tbG bg en f (f + k) k
  | 0, _ => by
    have e := (h.ek (k := 0) (by have := h.ft; omega))
    show (X.take (bg f) ++ []).length = _ + 0
    rw [List.append_nil, List.length_take, e.1]
    rw [Nat.add_zero] at e
    show min (bg f) X.length = bg f
    omega
  | k + 1, hk => by
    have ih := qG_len h k (by omega)
    obtain ⟨e1, e2, e3, e4⟩ := h.ek (k := k) (by omega)
    have e : qG X c bg en f t (k + 1) = qG X c bg en f t k ++ pcG X c bg en f t k := (List.append_assoc _ _ _).symm
    have hn := (tbG_line (bg := bg) (en := en) (f := f) (k := k) (K := k + 1) (by omega)).2
    rw [e, List.length_append, ih, e1, show f + (k + 1) = f + k + 1 by omega, hn]
    unfold pcG
    rw [List.length_append, List.length_take, List.length_drop]
    by_cases hne : bg (f + k) < en (f + k)
    · rw [if_pos hne, if_pos hne, List.length_singleton]; omega
    · rw [if_neg hne, if_neg hne, List.length_nil]; omega
theorem wG_next (h : LnsG bg en f t X.length) {k : Nat} (hk : f + k ≤ t) : wG X c bg en f t (k + 1) = qG X c bg en f t k ++ (if bg (f + k) < en (f + k) then [c] else []) ++ X.drop (ekG bg en f t k) := by
  obtain ⟨e1, e2, e3, e4⟩ := h.ek hk
  have e : qG X c bg en f t (k + 1) = qG X c bg en f t k ++ pcG X c bg en f t k := (List.append_assoc _ _ _).symm
  unfold wG
  rw [e, e1]
  unfold pcG
  rw [List.append_assoc, List.append_assoc, takeG_mid X (show bg (f + k) ≤ ekG bg en f t (k + 1) by omega), ← List.append_assoc]
theorem qG_more (k : Nat) : ∀ j, k ≤ j → ∃ r, qG X c bg en f t j = qG X c bg en f t k ++ r
  | 0, h => ⟨[], by obtain rfl : k = 0 := by omega
                    simp⟩
  | j + 1, h => by
    rcases Nat.lt_or_ge j k with h1 | h1
    · obtain rfl : k = j + 1 := by omega
      exact ⟨[], by simp⟩
    · obtain ⟨r, hr⟩ := qG_more k j h1
      have e : qG X c bg en f t (j + 1) = qG X c bg en f t j ++ pcG X c bg en f t j := (List.append_assoc _ _ _).symm
      exact ⟨r ++ pcG X c bg en f t j, by rw [e, hr, List.append_assoc]⟩
/-- a line's own bytes are found behind its tab -/
theorem wG_cut (h : LnsG bg en f t X.length) {k K : Nat} (hk : f + k ≤ t) (hK : k < K) :
    ((wG X c bg en f t K).drop (ekG bg en f t k + tbG bg en f (f + k) k + (if bg (f + k) < en (f + k) then 1 else 0))).take (ekG bg en f t (k + 1) - bg (f + k)) = (X.drop (bg (f + k))).take (ekG bg en f t (k + 1) - bg (f + k)) := by
  obtain ⟨e1, e2, e3, e4⟩ := h.ek hk
  have hl := qG_len (c := c) h k (by omega)
  obtain ⟨r, hr⟩ := qG_more (X := X) (c := c) (bg := bg) (en := en) (f := f) (t := t) (k + 1) K hK
  have e : qG X c bg en f t (k + 1) = qG X c bg en f t k ++ pcG X c bg en f t k := (List.append_assoc _ _ _).symm
  have hw : wG X c bg en f t K = (qG X c bg en f t k ++ (if bg (f + k) < en (f + k) then [c] else [])) ++ ((X.drop (bg (f + k))).take (ekG bg en f t (k + 1) - bg (f + k)) ++ (r ++ X.drop (ekG bg en f t K))) := by
    unfold wG
    rw [hr, e]
    unfold pcG
    simp only [List.append_assoc]
  have hl2 : (qG X c bg en f t k ++ (if bg (f + k) < en (f + k) then [c] else [])).length = ekG bg en f t k + tbG bg en f (f + k) k + (if bg (f + k) < en (f + k) then 1 else 0) := by
    rw [List.length_append, hl]
    by_cases hne : bg (f + k) < en (f + k)
    · rw [if_pos hne, if_pos hne]; rfl
    · rw [if_neg hne, if_neg hne]; rfl
  rw [hw, ← hl2, List.drop_left, List.take_left' (by rw [List.length_take, List.length_drop]; omega)]
/-- where a tab stands -/
theorem wG_at (h : LnsG bg en f t X.length) {k K : Nat} (hk : f + k ≤ t) (hK : k < K) (hne : bg (f + k) < en (f + k)) : (wG X c bg en f t K)[ekG bg en f t k + tbG bg en f (f + k) k]? = some c := by
  have hl := qG_len (c := c) h k (by omega)
  obtain ⟨r, hr⟩ := qG_more (X := X) (c := c) (bg := bg) (en := en) (f := f) (t := t) (k + 1) K hK
  have e : qG X c bg en f t (k + 1) = qG X c bg en f t k ++ pcG X c bg en f t k := (List.append_assoc _ _ _).symm
  have hw : wG X c bg en f t K = qG X c bg en f t k ++ (c :: ((X.drop (bg (f + k))).take (ekG bg en f t (k + 1) - bg (f + k)) ++ (r ++ X.drop (ekG bg en f t K)))) := by
    unfold wG
    rw [hr, e]
    unfold pcG
    rw [if_pos hne]
    simp only [List.append_assoc, List.cons_append, List.nil_append]
  rw [hw, ← hl, List.getElem?_append_right (Nat.le_refl _), Nat.sub_self]
  rfl
/-- the lines, one behind the other -/
def plG (X : List α) (bg en : Nat → Nat) (f t : Nat) : Nat → List α
  | 0 => []
  | k + 1 => plG X bg en f t k ++ (X.drop (bg (f + k))).take (ekG bg en f t (k + 1) - bg (f + k))
theorem plG_is (h : LnsG bg en f t X.length) : ∀ k, f + k ≤ t + 1 → X.take (bg f) ++ plG X bg en f t k = X.take (ekG bg en f t k)
  | 0, _ => by
    rw [(h.ek (k := 0) (by have := h.ft; omega)).1]
    exact List.append_nil _
  | k + 1, hk => by
    have ih := plG_is h k (by omega)
    obtain ⟨e1, e2, e3, e4⟩ := h.ek (k := k) (by omega)
    show X.take (bg f) ++ (plG X bg en f t k ++ _) = _
    rw [← List.append_assoc, ih, e1, takeG_more X (by omega)]
end
theorem lnsG_of {V : List UInt8} {f t : Nat} (hft : f ≤ t) (ht : t < countL V) : LnsG (begL V) (endL V) f t V.length :=
  ⟨hft, fun n hn => beg_end (by omega), fun n hn => by rw [beg_succ]; omega, end_le ht⟩
/-- the lines of a text with tabs ahead of some of its lines -/
theorem wG_lines {V : List UInt8} {f t : Nat} (hft : f ≤ t) (ht : t < countL V) : ∀ k, f + k ≤ t + 1 →
    countL (wG V 9 (begL V) (endL V) f t k) = countL V ∧ ∀ m, m < countL V → begL (wG V 9 (begL V) (endL V) f t k) m = begL V m + tbG (begL V) (endL V) f m k ∧ endL (wG V 9 (begL V) (endL V) f t k) m = endL V m + tbG (begL V) (endL V) f (m + 1) k
  | 0, _ => by
    have h := lnsG_of hft ht
    have e : wG V 9 (begL V) (endL V) f t 0 = V := by
      unfold wG qG
      rw [(h.ek (k := 0) (by omega)).1]
      show V.take (begL V f) ++ [] ++ V.drop (begL V f) = V
      rw [List.append_nil, List.take_append_drop]
    rw [e]
    exact ⟨rfl, fun m _ => ⟨rfl, rfl⟩⟩
  | k + 1, hk => by
    have h := lnsG_of hft ht
    obtain ⟨ih1, ih2⟩ := wG_lines hft ht k (by omega)
    have hn : f + k < countL V := by omega
    have hnx := wG_next (c := 9) h (show f + k ≤ t by omega)
    have hl := qG_len (c := (9 : UInt8)) h k (by omega)
    by_cases hne : begL V (f + k) < endL V (f + k)
    · have hw : wG V 9 (begL V) (endL V) f t (k + 1) = insT (wG V 9 (begL V) (endL V) f t k) (begL (wG V 9 (begL V) (endL V) f t k) (f + k)) := by
        rw [(ih2 (f + k) hn).1, ← (h.ek (k := k) (by omega)).1, ← hl, hnx, if_pos hne]
        unfold insT wG
        rw [List.take_left, List.drop_left]
      have hn2 : f + k < countL (wG V 9 (begL V) (endL V) f t k) := by rw [ih1]; exact hn
      rw [hw]
      refine ⟨by rw [insT_count, ih1], fun m hm => ?_⟩
      have hm2 : m < countL (wG V 9 (begL V) (endL V) f t k) := by rw [ih1]; exact hm
      rw [insT_beg hn2 hm2, insT_end hn2 hm2, (ih2 m hm).1, (ih2 m hm).2]
      constructor
      · show _ = begL V m + (tbG (begL V) (endL V) f m k + _)
        by_cases h1 : f + k < m
        · rw [if_pos h1, if_pos ⟨hne, h1⟩]; omega
        · rw [if_neg h1, if_neg (fun e => h1 e.2)]; omega
      · show _ = endL V m + (tbG (begL V) (endL V) f (m + 1) k + _)
        by_cases h1 : f + k ≤ m
        · rw [if_pos h1, if_pos ⟨hne, by omega⟩]; omega
        · rw [if_neg h1, if_neg (fun e => h1 (by omega))]; omega
    · have hw : wG V 9 (begL V) (endL V) f t (k + 1) = wG V 9 (begL V) (endL V) f t k := by
        rw [hnx, if_neg hne, List.append_nil]
        rfl
      rw [hw]
      refine ⟨ih1, fun m hm => ?_⟩
      obtain ⟨g1, g2⟩ := ih2 m hm
      rw [g1, g2]
      exact ⟨by show _ = begL V m + (tbG (begL V) (endL V) f m k + _); rw [if_neg (fun e => hne e.1)]; rfl, by show _ = endL V m + (tbG (begL V) (endL V) f (m + 1) k + _); rw [if_neg (fun e => hne e.1)]; rfl⟩
end Go.Proofs.YtgpmfkedcoiopaaGreatDoor

/-
  < behind >, as plain facts: layer 14.
-/
namespace Go.Proofs.YtgpmfkedcoiopaaGreatDoor
open Go.RowKit

theorem class_tab {W : List UInt8} {p : Nat} (hb : Beg W p) (h : W[p]? = some 9) : classA W p = 0 := by
  obtain ⟨i, hi, rfl⟩ := hb
  have hlt : width ((chars W).take i) < W.length := by
    rcases Nat.lt_or_ge (width ((chars W).take i)) W.length with h1 | h1
    · exact h1
    · rw [List.getElem?_eq_none h1] at h; cases h
  have hw : whichM (chars W) (width ((chars W).take i) : Nat) = i := ((which_self hi).unique (which_is _ _)).symm
  have hr := (read_take hi).all
  have hne : W.drop (width ((chars W).take i)) = 9 :: W.drop (width ((chars W).take i) + 1) := by
    rw [List.drop_eq_getElem_cons hlt]
    congr 1
    rw [List.getElem?_eq_getElem hlt] at h
    exact Option.some.inj h
  unfold classA
  rw [hw]
  have hg : (chars W).getD i (0, 0) = (9, 1) := by
    generalize width ((chars W).take i) = p at *
    rw [hne, chars_cons (t := 9 :: W.drop (p + 1)) (by simp)] at hr
    have hd : dec (9 :: W.drop (p + 1)) = (9, 1) := by
      unfold dec
      simp
    rw [hd] at hr
    have hl : ((chars W).take i).length = i := by rw [List.length_take]; omega
    rw [hr, List.getD_eq_getElem?_getD, List.getElem?_append_right (by omega), hl, Nat.sub_self]
    rfl
  rw [hg]
  decide
theorem subB_self (y : Nat) : subB y y = true := by unfold subB; simp
section
variable {α β : Type}
theorem shG_map (g : α → β) (X : List α) (c : α) (bg en : Nat → Nat) (f t : Nat) : ∀ k, (shG X c bg en f t k).map g = shG (X.map g) (g c) bg en f t k
  | 0 => rfl
  | k + 1 => by
    unfold shG
    rw [List.map_append, shG_map g X c bg en f t k]
    unfold pcG
    rw [List.map_append, List.map_take, List.map_drop]
    congr 2
    split <;> rfl
theorem wG_map (g : α → β) (X : List α) (c : α) (bg en : Nat → Nat) (f t k : Nat) : (wG X c bg en f t k).map g = wG (X.map g) (g c) bg en f t k := by
  unfold wG qG
  rw [List.map_append, List.map_append, shG_map, List.map_take, List.map_drop]
end
/-- the view of a text with tabs of the level's own -/
theorem wG_view {S : List UInt8} {bs : List Nat} (h : bs.length = S.length) (y : Nat) (bg en : Nat → Nat) (f t k : Nat) :
    viewTo (wG S 9 bg en f t k) (wG bs y bg en f t k) y = wG (viewTo S bs y) 9 bg en f t k ∧ (wG bs y bg en f t k).length = (wG S 9 bg en f t k).length := by
  have e1 : (S.zip bs).map Prod.fst = S := List.map_fst_zip (by omega)
  have e2 : (S.zip bs).map Prod.snd = bs := List.map_snd_zip (by omega)
  have w1 := wG_map Prod.fst (S.zip bs) (9, y) bg en f t k
  have w2 := wG_map Prod.snd (S.zip bs) (9, y) bg en f t k
  rw [e1] at w1
  rw [e2] at w2
  dsimp only at w1 w2
  rw [← w1, ← w2]
  refine ⟨?_, by rw [List.length_map, List.length_map]⟩
  unfold viewTo
  rw [List.zip_map', List.map_map]
  have w3 := wG_map (fun p : UInt8 × Nat => if subB p.2 y = true then p.1 else 35) (S.zip bs) (9, y) bg en f t k
  dsimp only at w3
  rw [if_pos (subB_self y)] at w3
  rw [← w3]
  rfl
/-- what one line gives, whatever the operator -/
theorem shPiece_is {S : List UInt8} {l : List RunP} (hg : goodT S l = true) {V : List UInt8} {y : Nat} {op : Int} {n : Nat} {T : Int} {a b : Nat} (hn : n < countL V)
    (ha : a = if op = 60 ∧ begL V n < endL V n ∧ classA V (begL V n) = 0 then begL V n + 1 else begL V n) (hb : b = if (n : Int) < T then endL V n + 1 else endL V n) (hab : a ≤ b) (hbS : b ≤ S.length) :
    goodC (shPiece S l V y op T n) = true ∧ bytesC (shPiece S l V y op T n) = (if op = 62 ∧ begL V n < endL V n then [9] else []) ++ (S.drop a).take (b - a) ∧
      labsC (shPiece S l V y op T n) = (if op = 62 ∧ begL V n < endL V n then [y] else []) ++ ((bytesOf l).drop a).take (b - a) := by
  have gs := goodT_size hg
  have hw := within_nat hg hab hbS
  have hcut : cutOf S l (a : Int) (b : Int) = (((S.drop a).take (b - a), pack (cut (bytesOf l) (a : Int) (b : Int))), 0) := by
    unfold cutOf
    rw [if_pos hw]
    have e1 : ((a : Int)).toNat = a := by omega
    have e2 : ((b : Int) - (a : Int)).toNat = b - a := by omega
    rw [e1, e2]
  have hcl : cut (bytesOf l) (a : Int) (b : Int) = ((bytesOf l).drop a).take (b - a) := by
    unfold cut
    have e1 : ((a : Int)).toNat = a := by omega
    have e2 : ((b : Int) - (a : Int)).toNat = b - a := by omega
    rw [e1, e2]
  have hgc : goodT ((S.drop a).take (b - a)) (pack (cut (bytesOf l) (a : Int) (b : Int))) = true := by
    have h0 : (cutOf S l (a : Int) (b : Int)).2 = 0 := by rw [hcut]
    have := cut_good h0
    rwa [hcut] at this
  have hm : (makeOf [9] y).1 = ([9], pack (List.replicate 1 y)) := by unfold makeOf; rw [if_pos (by decide)]; rfl
  have hgm : goodT [9] (pack (List.replicate 1 y)) = true := by
    refine (goodT_iff _ _).2 ⟨goodB_pack (by simp), ?_⟩
    rw [bytesOf_pack]; rfl
  have hp : shPiece S l V y op T n = (if op = 62 ∧ begL V n < endL V n then [([9], pack (List.replicate 1 y))] else []) ++ [((S.drop a).take (b - a), pack (cut (bytesOf l) (a : Int) (b : Int)))] := by
    unfold shPiece
    dsimp only
    rw [boundsL_nat hn]
    dsimp only
    rw [← ha, ← hb, hcut, hm]
  rw [hp]
  unfold goodC bytesC labsC
  by_cases h : op = 62 ∧ begL V n < endL V n
  · rw [if_pos h, if_pos h, if_pos h]
    have hgm' : goodT [9] (pack [y]) = true := hgm
    refine ⟨by simp [hgc, hgm'], by simp, ?_⟩
    simp only [List.cons_append, List.nil_append, List.flatMap_cons, List.flatMap_nil, List.append_nil, bytesOf_pack, hcl]
    rfl
  · rw [if_neg h, if_neg h, if_neg h]
    refine ⟨by simp [hgc], by simp, ?_⟩
    simp only [List.nil_append, List.flatMap_cons, List.flatMap_nil, List.append_nil, bytesOf_pack, hcl]
theorem ek_line {V : List UInt8} {F T k : Nat} (hk : F + k ≤ T) : ekG (begL V) (endL V) F T (k + 1) = if ((F + k : Nat) : Int) < (T : Int) then endL V (F + k) + 1 else endL V (F + k) := by
  unfold ekG
  by_cases h : F + (k + 1) ≤ T
  · rw [if_pos h, if_pos (by omega), show F + (k + 1) = F + k + 1 by omega, beg_succ]
  · rw [if_neg h, if_neg (by omega), show T = F + k by omega]
theorem shList_fwd {S : List UInt8} {l : List RunP} (hg : goodT S l = true) {V : List UInt8} (hVl : V.length = S.length) (y : Nat) {F T : Nat} (hFT : F ≤ T) (hT : T < countL V) : ∀ k, F + k ≤ T + 1 →
    goodC (shList S l V y 62 F T k) = true ∧ bytesC (shList S l V y 62 F T k) = shG S 9 (begL V) (endL V) F T k ∧ labsC (shList S l V y 62 F T k) = shG (bytesOf l) y (begL V) (endL V) F T k
  | 0, _ => ⟨rfl, rfl, rfl⟩
  | k + 1, hk => by
    obtain ⟨i1, i2, i3⟩ := shList_fwd hg hVl y hFT hT k (by omega)
    obtain ⟨e1, e2, e3, e4⟩ := (lnsG_of hFT hT).ek (k := k) (by omega)
    have e : ((F : Int) + (k : Nat)) = ((F + k : Nat) : Int) := by omega
    obtain ⟨p1, p2, p3⟩ := shPiece_is hg (V := V) (y := y) (op := 62) (n := F + k) (T := T) (a := begL V (F + k)) (b := ekG (begL V) (endL V) F T (k + 1)) (by omega) (by rw [if_neg (fun h => absurd h.1 (by decide))]) (ek_line (by omega)) (by omega) (by omega)
    have hs : shList S l V y 62 F T (k + 1) = shList S l V y 62 F T k ++ shPiece S l V y 62 T ((F + k : Nat) : Int) := by
      rw [← e]; rfl
    have hif : ∀ {α : Type} (x y : α), (if (62 : Int) = 62 ∧ begL V (F + k) < endL V (F + k) then x else y) = if begL V (F + k) < endL V (F + k) then x else y := fun x y => by
      by_cases h : begL V (F + k) < endL V (F + k)
      · rw [if_pos h, if_pos ⟨rfl, h⟩]
      · rw [if_neg h, if_neg (fun e => h e.2)]
    rw [hif] at p2 p3
    refine ⟨?_, ?_, ?_⟩
    · rw [hs, goodC_app, i1, p1]; rfl
    · rw [hs, bytesC_app, i2, p2]; rfl
    · rw [hs, labsC_app, i3, p3]; rfl
theorem shList_back {S : List UInt8} {l : List RunP} {V W U : List UInt8} {q : List RunP} (hSl : (bytesOf l).length = S.length) (hVl : V.length = S.length) (hgU : goodT U q = true) (y : Nat) {F T K : Nat} (hFT : F ≤ T) (hT : T < countL V) (hK : F + K = T + 1)
    (hU : U = wG S 9 (begL V) (endL V) F T K) (hq : bytesOf q = wG (bytesOf l) y (begL V) (endL V) F T K) (hW : W = wG V 9 (begL V) (endL V) F T K) : ∀ k, F + k ≤ T + 1 →
    goodC (shList U q W y 60 F T k) = true ∧ bytesC (shList U q W y 60 F T k) = plG S (begL V) (endL V) F T k ∧ labsC (shList U q W y 60 F T k) = plG (bytesOf l) (begL V) (endL V) F T k
  | 0, _ => ⟨rfl, rfl, rfl⟩
  | k + 1, hk => by
    obtain ⟨i1, i2, i3⟩ := shList_back hSl hVl hgU y hFT hT hK hU hq hW k (by omega)
    have hL := lnsG_of hFT hT
    have hLS : LnsG (begL V) (endL V) F T S.length := by rw [← hVl]; exact hL
    have hLl : LnsG (begL V) (endL V) F T (bytesOf l).length := by rw [hSl]; exact hLS
    obtain ⟨e1, e2, e3, e4⟩ := hL.ek (k := k) (by omega)
    obtain ⟨w1, w2⟩ := wG_lines hFT hT K (by omega)
    rw [← hW] at w1 w2
    obtain ⟨g1, g2⟩ := w2 (F + k) (by omega)
    obtain ⟨t1, t2⟩ := tbG_line (bg := begL V) (en := endL V) (f := F) (k := k) (K := K) (by omega)
    rw [t1] at g1
    rw [t2] at g2
    have hUW : U.length = W.length := by
      have := (wG_view (S := V) (bs := bytesOf l) (by omega) y (begL V) (endL V) F T K).2
      have h2 := (wG_view (S := S) (bs := bytesOf l) (by omega) y (begL V) (endL V) F T K).2
      rw [hU, hW, ← this, ← h2]
    have hnW : F + k < countL W := by omega
    have hbe := beg_end hnW
    have hel := end_le hnW
    have hnl : (if ((F + k : Nat) : Int) < (T : Int) then endL W (F + k) + 1 else endL W (F + k)) ≤ W.length := by
      split
      · have := beg_le (S := W) (n := F + k + 1) (by omega)
        rw [beg_succ] at this
        exact this
      · exact hel
    have hcl : begL V (F + k) < endL V (F + k) → classA W (begL W (F + k)) = 0 := fun hne => by
      refine class_tab (Beg.begL hnW) ?_
      have := wG_at (c := (9 : UInt8)) hL (show F + k ≤ T by omega) (show k < K by omega) hne
      rw [← hW, e1] at this
      rw [g1]
      exact this
    have ha : ekG (begL V) (endL V) F T k + tbG (begL V) (endL V) F (F + k) k + (if begL V (F + k) < endL V (F + k) then 1 else 0) = if (60 : Int) = 60 ∧ begL W (F + k) < endL W (F + k) ∧ classA W (begL W (F + k)) = 0 then begL W (F + k) + 1 else begL W (F + k) := by
      rw [e1]
      by_cases hne : begL V (F + k) < endL V (F + k)
      · rw [if_pos hne] at g2 ⊢
        rw [if_pos ⟨rfl, by omega, hcl hne⟩, g1]
      · rw [if_neg hne] at g2 ⊢
        rw [if_neg (fun h => by have := h.2.1; omega), g1]
        rfl
    have hb : ekG (begL V) (endL V) F T k + tbG (begL V) (endL V) F (F + k) k + (if begL V (F + k) < endL V (F + k) then 1 else 0) + (ekG (begL V) (endL V) F T (k + 1) - begL V (F + k)) = if ((F + k : Nat) : Int) < (T : Int) then endL W (F + k) + 1 else endL W (F + k) := by
      have h3 := ek_line (V := V) (F := F) (T := T) (k := k) (by omega)
      rw [g2, e1]
      by_cases h : ((F + k : Nat) : Int) < (T : Int)
      · rw [if_pos h] at h3 ⊢; omega
      · rw [if_neg h] at h3 ⊢; omega
    have e : ((F : Int) + (k : Nat)) = ((F + k : Nat) : Int) := by omega
    obtain ⟨p1, p2, p3⟩ := shPiece_is hgU (V := W) (y := y) (op := 60) (n := F + k) (T := T) hnW ha hb (by omega) (by rw [hb]; omega)
    have hs : shList U q W y 60 F T (k + 1) = shList U q W y 60 F T k ++ shPiece U q W y 60 T ((F + k : Nat) : Int) := by
      rw [← e]; rfl
    rw [if_neg (fun h => absurd h.1 (by decide)), List.nil_append, Nat.add_sub_cancel_left] at p2 p3
    rw [hU, wG_cut hLS (by omega) (by omega)] at p2
    rw [hq, wG_cut hLl (by omega) (by omega)] at p3
    rw [← hU] at p2
    refine ⟨?_, ?_, ?_⟩
    · rw [hs, goodC_app, i1, p1]; rfl
    · rw [hs, bytesC_app, i2, p2]; rfl
    · rw [hs, labsC_app, i3, p3]; rfl
/-- the edit of > and < -/
def tmS (S : List UInt8) (l : List RunP) (V : List UInt8) (y : Nat) (op : Int) (F T : Nat) : (EdP × List UInt8) × Nat :=
  turnedM S l y (begL V F : Nat) (endL V T : Nat) ((pileM (shList S l V y op F T (T + 1 - F))).getD ([], [])).1 ((pileM (shList S l V y op F T (T + 1 - F))).getD ([], [])).2 (pileM (shList S l V y op F T (T + 1 - F))).isSome
theorem do_sh {S : List UInt8} {l : List RunP} {y : Nat} {op : Int} {F T : Nat} (hg : goodT S l = true) (hop : op = 62 ∨ op = 60) (hFT : F ≤ T) (hT : T < countL (viewOf S l y).1) :
    doM S l y op F T true = if (tmS S l (viewOf S l y).1 y op F T).2 = 0 then (⟨(tmS S l (viewOf S l y).1 y op F T).1.1, [], [], false, false, (firstL (tmS S l (viewOf S l y).1 y op F T).1.2 F : Nat)⟩, 0) else (out0, (tmS S l (viewOf S l y).1 y op F T).2) := by
  have h0 : (viewOf S l y).2 = 0 := by unfold viewOf; rw [if_pos hg]
  have hr : rightM (viewOf S l y).1 F T true = true := by unfold rightM; rw [if_pos rfl]; exact decide_eq_true ⟨by omega, by omega, by omega⟩
  unfold doM
  dsimp only
  rw [if_neg (fun e => by rcases e with e | e; exact e h0; rw [hr] at e; cases e), if_neg (by omega), if_pos hop]
  have hp : linesP (viewOf S l y).1 F T true = ((F : Int), (T : Int)) := if_pos rfl
  unfold shiftedM
  rw [hp]
  dsimp only
  rw [boundsL_nat (show F < countL (viewOf S l y).1 by omega), boundsL_nat hT, show ((T : Int) - F + 1).toNat = T + 1 - F by omega]
  rfl
theorem turned_zero {S : List UInt8} {l : List RunP} {y : Nat} {f e : Int} {X : List UInt8} {m : List RunP} (hc : (cutOf S l f e).2 = 0) (hs : (spliceT S l f e X m).2 = 0) : (turnedM S l y f e X m true).2 = 0 := by
  unfold turnedM
  rw [if_neg (by simp)]
  have ho : (ofE S l f e X m).2 = 0 := by unfold ofE; rw [if_pos hc, if_pos hs]
  rw [if_pos ho]
theorem view_zero {S : List UInt8} {l : List RunP} (hg : goodT S l = true) (y : Nat) : (viewOf S l y).2 = 0 := by unfold viewOf; rw [if_pos hg]
/-- < behind > -/
theorem there_sh {S : List UInt8} {l : List RunP} {y : Nat} {f t : Int} (h : (doM S l y 62 f t true).2 = 0) :
    ∃ U q, applyE S l (doM S l y 62 f t true).1.E.a (doM S l y 62 f t true).1.E.S (doM S l y 62 f t true).1.E.l (doM S l y 62 f t true).1.E.X (doM S l y 62 f t true).1.E.m = ((U, q), 0) ∧ goodT U q = true ∧ (doM U q y 60 f t true).2 = 0 ∧
      applyE U q (doM U q y 60 f t true).1.E.a (doM U q y 60 f t true).1.E.S (doM U q y 60 f t true).1.E.l (doM U q y 60 f t true).1.E.X (doM U q y 60 f t true).1.E.m = ((S, l), 0) := by
  have hn : ¬ ((viewOf S l y).2 ≠ 0 ∨ rightM (viewOf S l y).1 f t true = false) := fun e => by
    unfold doM at h
    dsimp only at h
    rw [if_pos e] at h
    exact absurd h (by decide)
  have h0 : (viewOf S l y).2 = 0 := Decidable.byContradiction fun e => hn (.inl e)
  have hr : rightM (viewOf S l y).1 f t true = true := by
    cases h : rightM (viewOf S l y).1 f t true with
    | true => rfl
    | false => exact absurd (.inr h) hn
  have hg : goodT S l = true := by
    unfold viewOf at h0
    split at h0
    · next hg => exact hg
    · exact absurd h0 (by decide)
  unfold rightM at hr
  rw [if_pos rfl] at hr
  have hr := of_decide_eq_true hr
  obtain ⟨F, rfl⟩ : ∃ F : Nat, f = F := ⟨f.toNat, by omega⟩
  obtain ⟨T, rfl⟩ : ∃ T : Nat, t = T := ⟨t.toNat, by omega⟩
  have hFT : F ≤ T := by omega
  have hT : T < countL (viewOf S l y).1 := by omega
  have gs := goodT_size hg
  have hVv := view_good hg y
  have hVl : (viewOf S l y).1.length = S.length := (view_same h0).symm
  rw [do_sh hg (.inl rfl) hFT hT] at h ⊢
  have hz : (tmS S l (viewOf S l y).1 y 62 F T).2 = 0 := by
    by_cases hz : (tmS S l (viewOf S l y).1 y 62 F T).2 = 0
    · exact hz
    · rw [if_neg hz] at h; exact absurd h hz
  rw [if_pos hz]
  dsimp only
  clear h hn hr
  obtain ⟨K, hK⟩ : ∃ K, K = T + 1 - F := ⟨_, rfl⟩
  obtain ⟨l1, l2, l3⟩ := shList_fwd hg hVl y hFT hT K (by omega)
  have hz2 := hz
  unfold tmS at hz
  rw [← hK] at hz
  obtain ⟨hsome, _, _, _, hs, _, _, _, hap, _, _⟩ := turned_ok hz
  have hpile : pileM (shList S l (viewOf S l y).1 y 62 F T K) = some (bytesC (shList S l (viewOf S l y).1 y 62 F T K), pack (labsC (shList S l (viewOf S l y).1 y 62 F T K))) := by
    unfold pileM at hsome ⊢
    split at hsome
    · next hc => rw [if_pos hc]
    · cases hsome
  have hapS : applyE S l (tmS S l (viewOf S l y).1 y 62 F T).1.1.a (tmS S l (viewOf S l y).1 y 62 F T).1.1.S (tmS S l (viewOf S l y).1 y 62 F T).1.1.l (tmS S l (viewOf S l y).1 y 62 F T).1.1.X (tmS S l (viewOf S l y).1 y 62 F T).1.1.m = spliceT S l (begL (viewOf S l y).1 F : Nat) (endL (viewOf S l y).1 T : Nat) (bytesC (shList S l (viewOf S l y).1 y 62 F T K)) (pack (labsC (shList S l (viewOf S l y).1 y 62 F T K))) := by
    unfold tmS
    rw [← hK, hap, hpile]
    rfl
  rw [hapS]
  rw [hpile] at hs
  have hs : (spliceT S l (begL (viewOf S l y).1 F : Nat) (endL (viewOf S l y).1 T : Nat) (bytesC (shList S l (viewOf S l y).1 y 62 F T K)) (pack (labsC (shList S l (viewOf S l y).1 y 62 F T K)))).2 = 0 := hs
  have hgU := splice_good hs
  obtain ⟨c1, c2, c3⟩ := spliceT_zero hs
  have hekK : ekG (begL (viewOf S l y).1) (endL (viewOf S l y).1) F T K = endL (viewOf S l y).1 T := if_neg (by omega)
  have hsp : spliceT S l (begL (viewOf S l y).1 F : Nat) (endL (viewOf S l y).1 T : Nat) (bytesC (shList S l (viewOf S l y).1 y 62 F T K)) (pack (labsC (shList S l (viewOf S l y).1 y 62 F T K))) = ((wG S 9 (begL (viewOf S l y).1) (endL (viewOf S l y).1) F T K, pack (wG (bytesOf l) y (begL (viewOf S l y).1) (endL (viewOf S l y).1) F T K)), 0) := by
    unfold spliceT
    rw [if_pos ⟨c1, c2⟩, if_pos c3, bytesOf_pack, l2, l3]
    unfold wG qG
    rw [hekK]
    rfl
  rw [hsp] at hgU
  rw [hsp]
  dsimp only at hgU
  refine ⟨_, _, rfl, hgU, ?_⟩
  clear hs c1 c2 c3 hsp hapS hap hpile hsome hz hz2 l1 l2 l3
  have hv := wG_view (S := S) (bs := bytesOf l) gs.2.2 y (begL (viewOf S l y).1) (endL (viewOf S l y).1) F T K
  rw [← hVv] at hv
  have hWv := view_good hgU y
  rw [bytesOf_pack, hv.1] at hWv
  obtain ⟨w1, w2⟩ := wG_lines hFT hT K (by omega)
  have hq := bytesOf_pack (wG (bytesOf l) y (begL (viewOf S l y).1) (endL (viewOf S l y).1) F T K)
  obtain ⟨m1, m2, m3⟩ := shList_back (S := S) (l := l) (V := (viewOf S l y).1) gs.2.2 hVl hgU y hFT hT (show F + K = T + 1 by omega) rfl hq hWv K (by omega)
  rw [← hWv] at w1 w2
  have hLS : LnsG (begL (viewOf S l y).1) (endL (viewOf S l y).1) F T S.length := by rw [← hVl]; exact lnsG_of hFT hT
  have hLl : LnsG (begL (viewOf S l y).1) (endL (viewOf S l y).1) F T (bytesOf l).length := by rw [gs.2.2]; exact hLS
  have hqS := qG_len (c := (9 : UInt8)) hLS K (by omega)
  have hql := qG_len (c := y) hLl K (by omega)
  have hpS := plG_is hLS K (by omega)
  have hpl := plG_is hLl K (by omega)
  rw [hekK] at hqS hql hpS hpl
  have hWl := view_same (view_zero hgU y)
  have hwS : ∀ (α : Type) (X : List α) (c : α), wG X c (begL (viewOf S l y).1) (endL (viewOf S l y).1) F T K = qG X c (begL (viewOf S l y).1) (endL (viewOf S l y).1) F T K ++ X.drop (endL (viewOf S l y).1 T) := fun α X c => by
    unfold wG
    rw [hekK]
  obtain ⟨b1, _⟩ := w2 F (by omega)
  obtain ⟨_, b2⟩ := w2 T hT
  rw [tbG_zero, Nat.add_zero] at b1
  rw [show T + 1 = F + K by omega] at b2
  generalize hWW : (viewOf (wG S 9 (begL (viewOf S l y).1) (endL (viewOf S l y).1) F T K) (pack (wG (bytesOf l) y (begL (viewOf S l y).1) (endL (viewOf S l y).1) F T K)) y).1 = W at *
  have hTW : T < countL W := by omega
  have hdo := do_sh (y := y) (op := 60) (F := F) (T := T) hgU (.inr rfl) hFT (by rw [hWW]; exact hTW)
  rw [hWW] at hdo
  have hFW : begL W F ≤ endL W T := Nat.le_trans (beg_mono hFT hTW) (beg_end hTW)
  have hTWl := end_le hTW
  have hpile : pileM (shList (wG S 9 (begL (viewOf S l y).1) (endL (viewOf S l y).1) F T K) (pack (wG (bytesOf l) y (begL (viewOf S l y).1) (endL (viewOf S l y).1) F T K)) W y 60 F T K) = some (plG S (begL (viewOf S l y).1) (endL (viewOf S l y).1) F T K, pack (plG (bytesOf l) (begL (viewOf S l y).1) (endL (viewOf S l y).1) F T K)) := by
    have hle : (plG S (begL (viewOf S l y).1) (endL (viewOf S l y).1) F T K).length ≤ 4096 := by
      have := congrArg List.length hpS
      rw [List.length_append, List.length_take, List.length_take] at this
      omega
    unfold pileM
    rw [m2, m3, if_pos ⟨m1, hle⟩]
  have hgp : goodT (plG S (begL (viewOf S l y).1) (endL (viewOf S l y).1) F T K) (pack (plG (bytesOf l) (begL (viewOf S l y).1) (endL (viewOf S l y).1) F T K)) = true := pile_good hpile
  have hwith := within_nat hgU hFW (by omega)
  have hcut : (cutOf (wG S 9 (begL (viewOf S l y).1) (endL (viewOf S l y).1) F T K) (pack (wG (bytesOf l) y (begL (viewOf S l y).1) (endL (viewOf S l y).1) F T K)) (begL W F : Nat) (endL W T : Nat)).2 = 0 := by
    unfold cutOf; rw [if_pos hwith]
  have hmid : ∀ (α : Type) (X : List α) (c : α), X.length = S.length → (qG X c (begL (viewOf S l y).1) (endL (viewOf S l y).1) F T K).length = endL (viewOf S l y).1 T + tbG (begL (viewOf S l y).1) (endL (viewOf S l y).1) F (F + K) K → X.take (begL (viewOf S l y).1 F) ++ plG X (begL (viewOf S l y).1) (endL (viewOf S l y).1) F T K = X.take (endL (viewOf S l y).1 T) →
      (wG X c (begL (viewOf S l y).1) (endL (viewOf S l y).1) F T K).take (begL W F) ++ plG X (begL (viewOf S l y).1) (endL (viewOf S l y).1) F T K ++ (wG X c (begL (viewOf S l y).1) (endL (viewOf S l y).1) F T K).drop (endL W T) = X := fun α X c hX hl hp => by
    have hbF := beg_le (S := (viewOf S l y).1) (n := F) (by omega)
    have t1 : (wG X c (begL (viewOf S l y).1) (endL (viewOf S l y).1) F T K).take (begL W F) = X.take (begL (viewOf S l y).1 F) := by
      rw [hwS, b1]
      unfold qG
      rw [List.append_assoc, List.take_append_of_le_length (by rw [List.length_take]; omega), List.take_take, Nat.min_self]
    have t2 : (wG X c (begL (viewOf S l y).1) (endL (viewOf S l y).1) F T K).drop (endL W T) = X.drop (endL (viewOf S l y).1 T) := by
      rw [hwS, b2, ← hl, List.drop_left]
    rw [t1, t2, hp, List.take_append_drop]
  have hsp : spliceT (wG S 9 (begL (viewOf S l y).1) (endL (viewOf S l y).1) F T K) (pack (wG (bytesOf l) y (begL (viewOf S l y).1) (endL (viewOf S l y).1) F T K)) (begL W F : Nat) (endL W T : Nat) (plG S (begL (viewOf S l y).1) (endL (viewOf S l y).1) F T K) (pack (plG (bytesOf l) (begL (viewOf S l y).1) (endL (viewOf S l y).1) F T K)) = ((S, l), 0) := by
    have e1 : ((begL W F : Nat) : Int).toNat = begL W F := by omega
    have e2 : ((endL W T : Nat) : Int).toNat = endL W T := by omega
    have h1 := hmid UInt8 S 9 rfl hqS hpS
    have h2 := hmid Nat (bytesOf l) y gs.2.2 hql hpl
    have h3 := congrArg List.length h1
    rw [List.length_append, List.length_append, List.length_take, List.length_drop] at h3
    unfold spliceT
    rw [if_pos ⟨hwith, hgp⟩, if_pos (by omega), e1, e2, bytesOf_pack, bytesOf_pack, h1, h2, goodB_eq ((goodT_iff S l).1 hg).1]
  have hzz : (tmS (wG S 9 (begL (viewOf S l y).1) (endL (viewOf S l y).1) F T K) (pack (wG (bytesOf l) y (begL (viewOf S l y).1) (endL (viewOf S l y).1) F T K)) W y 60 F T) = turnedM (wG S 9 (begL (viewOf S l y).1) (endL (viewOf S l y).1) F T K) (pack (wG (bytesOf l) y (begL (viewOf S l y).1) (endL (viewOf S l y).1) F T K)) y (begL W F : Nat) (endL W T : Nat) (plG S (begL (viewOf S l y).1) (endL (viewOf S l y).1) F T K) (pack (plG (bytesOf l) (begL (viewOf S l y).1) (endL (viewOf S l y).1) F T K)) true := by
    unfold tmS
    rw [← hK, hpile]
    rfl
  have hz0 := turned_zero (y := y) hcut (by rw [hsp])
  obtain ⟨_, _, _, _, _, _, _, _, hap, _, _⟩ := turned_ok hz0
  rw [← hzz] at hz0 hap
  rw [hdo, if_pos hz0]
  refine ⟨rfl, ?_⟩
  rw [hap, hsp]
end Go.Proofs.YtgpmfkedcoiopaaGreatDoor

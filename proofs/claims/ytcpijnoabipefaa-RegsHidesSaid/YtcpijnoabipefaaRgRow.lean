/-
  Wide deletions in a row, as plain lists; a list of texts that grows beside registers: layer 9.
-/
import Derived.Test.YtcpijnoabipefaaRgAlive
import Derived.Test.YtcpijnoabipefaaTextsOpen
import Derived.Test.YtcpijnoabipefaaPushT
namespace Go.Proofs.Ytcpijnoabipefaa
open Go.RowKit

theorem getD_set {R : List RegP} {i k : Nat} {x : RegP} (hi : i < R.length) : atR (R.set i x) k = if k = i then x else atR R k := by
  unfold atR
  rw [List.getElem?_set]
  by_cases h : k = i
  · subst h; simp [hi]
  · rw [if_neg (fun e => h e.symm), if_neg h]
theorem atR_put2 {R : List RegP} {i j k : Nat} {x : RegP} (hi : i < R.length) (hj : j < R.length) : atR (put2 R i j x) k = if k = j then x else if k = i then x else atR R k := by
  unfold put2
  rw [getD_set (by simpa using hj), getD_set hi]
theorem atR_shift {R : List RegP} (h : R.length = 38) {i : Nat} (h1 : 28 ≤ i) (h2 : i ≤ 35) : atR (shiftZ R) i = atR R (i - 1) := by
  unfold atR shiftZ
  congr 1
  rw [List.getElem?_append_left (by simp; omega), List.getElem?_append_right (by simp; omega), List.getElem?_take, if_pos (by simp; omega), List.getElem?_drop]
  congr 1
  simp
  omega
/-- the numbered registers have the last nine -/
def NineR (R : List RegP) (gs : List TextP) : Prop :=
  ∀ k, 1 ≤ k → k ≤ 9 → if h : 1 ≤ k ∧ k ≤ gs.length then atR R (26 + k) = ⟨true, (gs[gs.length - k]'(by omega)).S, (gs[gs.length - k]'(by omega)).l, false⟩ else (atR R (26 + k)).full = false
theorem nine_new : NineR newR [] := by
  intro k h1 h2
  rw [dif_neg (by simp; omega)]
  unfold atR newR
  rw [List.getElem?_replicate, if_pos (by omega)]
  rfl
theorem checkR_zero {S : List UInt8} {l : List RunP} (h : goodT S l = true) : checkR 0 S l = 0 := if_pos ⟨Or.inl rfl, h⟩
theorem deleteR_good {R : List RegP} {S : List UInt8} {l : List RunP} (h : goodT S l = true) : deleteR R 0 S l false true = (put2 (shiftZ R) 27 37 ⟨true, S, l, false⟩, 0) := by
  unfold deleteR
  rw [if_neg (by decide), if_pos (checkR_zero h), if_neg (by simp)]
theorem deleteR_bad {R : List RegP} {S : List UInt8} {l : List RunP} (h : goodT S l = false) : deleteR R 0 S l false true = (R, 2) := by
  unfold deleteR
  rw [if_neg (by decide), if_neg]
  intro hc
  have := (checkR_good hc).2
  rw [h] at this
  cases this
theorem NineR.push {R : List RegP} {gs : List TextP} (h : NineR R gs) (hR : R.length = 38) (t : TextP) : NineR (put2 (shiftZ R) 27 37 ⟨true, t.S, t.l, false⟩) (gs ++ [t]) := by
  intro k h1 h2
  have hs := shiftZ_len hR
  rw [atR_put2 (by omega) (by omega), if_neg (by omega)]
  by_cases h0 : k = 1
  · subst h0
    rw [if_pos rfl, dif_pos ⟨by omega, by simp⟩]
    simp
  · rw [if_neg (by omega), atR_shift hR (by omega) (by omega)]
    have hk := h (k - 1) (by omega) (by omega)
    rw [show 26 + k - 1 = 26 + (k - 1) by omega]
    by_cases hl : k - 1 ≤ gs.length
    · rw [dif_pos ⟨by omega, hl⟩] at hk
      rw [dif_pos ⟨by omega, by simp; omega⟩, hk]
      have hlt : gs.length + 1 - k < gs.length := by omega
      simp only [List.length_append, List.length_singleton]
      rw [List.getElem_append_left hlt]
      have e : gs.length - (k - 1) = gs.length + 1 - k := by omega
      simp only [e]
    · rw [dif_neg (by omega)] at hk
      rw [dif_neg (by simp; omega), hk]
theorem plN_digit {k : Nat} (h1 : 1 ≤ k) (h2 : k ≤ 9) : plN (48 + (k : Int)) = 26 + (k : Int) := by
  rcases plN_cases (48 + (k : Int)) with ⟨hu, _⟩ | ⟨h, _⟩ | ⟨h, _⟩ | ⟨_, h⟩ | ⟨h, _⟩ | h
  · have := of_decide_eq_true hu; omega
  · omega
  · omega
  · omega
  · omega
  · exfalso
    unfold plN at h
    rw [if_neg (by simp [unN]; omega), if_neg (by simp [capN]; omega), if_neg (by simp [letN]; omega), if_pos (by omega)] at h
    omega
theorem NineR.some_ {R : List RegP} {gs : List TextP} (h : NineR R gs) {k : Nat} (h1 : 1 ≤ k) (h2 : k ≤ 9) (h3 : k ≤ gs.length) : getR R (48 + (k : Int)) = (⟨true, (gs[gs.length - k]'(by omega)).S, (gs[gs.length - k]'(by omega)).l, false⟩, 0) := by
  have hk := h k h1 h2
  rw [dif_pos ⟨h1, h3⟩] at hk
  unfold getR
  rw [plN_digit h1 h2, if_neg (by omega), show (26 + (k : Int)).toNat = 26 + k by omega, hk]
  rfl
theorem NineR.none_ {R : List RegP} {gs : List TextP} (h : NineR R gs) {k : Nat} (h1 : 1 ≤ k) (h2 : k ≤ 9) (h3 : ¬ k ≤ gs.length) : getR R (48 + (k : Int)) = (zeroR, 6) := by
  have hk := h k h1 h2
  rw [dif_neg (by omega)] at hk
  unfold getR
  rw [plN_digit h1 h2, if_neg (by omega), show (26 + (k : Int)).toNat = 26 + k by omega, if_pos hk]

/-! Memory. -/
theorem elt_text9 : Elt Try.prog 22 29 (.agg #[.string ⟨#[]⟩, .slice none 0 0]) 2 40 := ⟨Try.underlying22, by kernel_rfl, rfl, by decide⟩
theorem flatX_snoc (gs : List TextP) (t : TextP) : flatX (gs ++ [t]) = flatX gs ++ [.string ⟨t.S.toArray⟩, .slice t.A t.l.length t.c] := by simp [flatX]
/-- registers, and a list of texts that grows -/
structure RowG9 (w0 wr : World) (g : Nat) (v : Value) (gs : List TextP) (R : List RegP) : Prop where
  own : wr.ownsRow (g + 1) 29 2 v gs.length (flatX gs)
  rg : Rgs wr (fun k => k = g ∨ v.ownBlock = some k) g R
  bl : Below w0.heap.size w0 wr
  low : w0.heap.size ≤ g
  txt : ∀ t ∈ gs, Txt w0 w0.heap.size t.A t.S t.l
  nine : NineR R gs
section
variable {w0 wr w' : World} {g : Nat} {v v' : Value} {gs : List TextP} {R : List RegP}
theorem RowG9.step (h : RowG9 w0 wr g v gs R) (hb : Below wr.heap.size wr w') : RowG9 w0 w' g v gs R :=
  ⟨own_keep h.own hb (Nat.le_refl _), h.rg.fresh hb, h.bl.trans (hb.mono h.bl.size), h.low, h.txt, h.nine⟩
theorem grow_rowG9 (h : RowG9 w0 wr g v gs R) : Grow wr (fun w' => RowG9 w0 w' g v gs R) := fun _ hb => h.step hb
theorem own_tch9 {P : Nat → Prop} {base e size n : Nat} {xs : List Value} (h : wr.ownsRow base e size v n xs) (hc : Tch P wr w') (hP : ∀ k, v.ownBlock = some k → ¬ P k) : w'.ownsRow base e size v n xs := by
  refine ⟨h.1, ?_⟩
  rcases h.2 with hn | ⟨g, cap, cur, e1, hb, hg, rest⟩
  · exact .inl hn
  · refine .inr ⟨g, cap, cur, e1, hb, (hc.block g (Array.getElem?_eq_some_iff.1 hg).1 (hP g (by rw [e1]; rfl))).trans hg, rest⟩
theorem RowG9.same (h : RowG9 w0 wr g v gs R) (hr : Rgs w' (fun k => k = g ∨ v.ownBlock = some k) g R) (hc : Tch (fun k => k = g) wr w') : RowG9 w0 w' g v gs R :=
  ⟨own_tch9 h.own hc (fun k hk e => by have := (h.own.lt k hk).1; omega), hr, h.bl.trans (hc.below h.bl.size (fun k hk => by have := h.low; omega)), h.low, h.txt, h.nine⟩
/-- one deletion more -/
theorem RowG9.push (h : RowG9 w0 wr g v gs R) {t : TextP} (ht : Txt w0 w0.heap.size t.A t.S t.l) {R' : List RegP} (hr : Rgs w' (fun k => k = g ∨ v.ownBlock = some k) g R') (hc : Tch (fun k => k = g) wr w') (hn : NineR R' (gs ++ [t])) :
    w'.ownsRow (g + 1) 29 2 v gs.length (flatX gs) ∧ ∀ v' w'', w''.ownsRow (g + 1) 29 2 v' (gs.length + 1) (flatX (gs ++ [t])) → Tch (fun k => v.ownBlock = some k) w' w'' → (∀ k, v'.ownBlock = some k → v.ownBlock = some k ∨ w'.heap.size ≤ k) → RowG9 w0 w'' g v' (gs ++ [t]) R' := by
  have hno : ∀ k, v.ownBlock = some k → ¬ k = g := fun k hk e => by have := (h.own.lt k hk).1; omega
  refine ⟨own_tch9 h.own hc hno, fun v' w'' hown ht2 hv => ⟨by simpa using hown, ?_, ?_, h.low, ?_, hn⟩⟩
  · obtain ⟨Z, e1, e2, e3⟩ := hr.mem
    refine ⟨hr.ok, Or.inl rfl, fun k hk => ?_, Z, e1, e2.tch ht2 (fun e => hno _ e rfl), fun z hz => ?_⟩
    · rcases hk with rfl | hk
      · exact Nat.lt_of_lt_of_le hr.tch ht2.size
      · exact (hown.lt k hk).2
    · have hx := (e3 z hz).tch (ht2.more fun k hk => Or.inr hk)
      refine ⟨hx.hS, hx.hf, hx.hl, ?_⟩
      rcases (e3 z hz).row with e | ⟨ad, e, hl, hnp, _⟩
      · exact .inl e
      · rcases hx.row with e' | ⟨ad', e', hl', _, hc'⟩
        · exact .inl e'
        · rw [e] at e'
          injection e' with e'
          subst e'
          refine .inr ⟨ad, e, hl', fun hp => ?_, hc'⟩
          rcases hp with hp | hp
          · exact hnp (Or.inl hp)
          · rcases hv _ hp with h1 | h1
            · exact hnp (Or.inr h1)
            · omega
  · refine (h.bl.trans (hc.below h.bl.size (fun k hk => by have := h.low; omega))).trans (ht2.below (Nat.le_trans h.bl.size hc.size) fun k hk => ?_)
    have := (h.own.lt k hk).1
    have := h.low
    omega
  · intro x hx
    rcases List.mem_append.1 hx with hx | hx
    · exact h.txt x hx
    · rw [List.mem_singleton.1 hx]; exact ht
end
end Go.Proofs.Ytcpijnoabipefaa

/-
  Neat lists, place by place; the label of a byte: layer 3.
-/
import Derived.Test.YthdflibljngjiaaRunAsk
namespace Go.Proofs.Ythdflibljngjiaa
open Go.RowKit

theorem list_snoc_ind {α : Type} {P : List α → Prop} (h0 : P []) (h1 : ∀ b x, P b → P (b ++ [x])) (b : List α) : P b := by
  have key : ∀ n (b : List α), b.length = n → P b := by
    intro n
    induction n with
    | zero => intro b hb; rw [List.eq_nil_of_length_eq_zero hb]; exact h0
    | succ n ih =>
      intro b hb
      rcases snoc_cases b with rfl | ⟨m, x, rfl⟩
      · simp at hb
      · exact h1 m x (ih m (by simpa using hb))
  exact key _ b rfl

theorem last_two {α : Type} (l : List α) (r s : α) : (l ++ [r] ++ [s])[l.length + 1]'(by simp) = s ∧ (l ++ [r] ++ [s])[l.length]'(by simp) = r := by
  constructor
  · simp
  · simp
theorem neat_idx (l : List RunP) : Neat l ↔ ∀ k, (h : k < l.length) → 1 ≤ l[k].2 ∧ (0 < k → (l[k - 1]'(by omega)).1 ≠ l[k].1) := by
  constructor
  · intro h
    induction h with
    | nil => intro k h; simp at h
    | one r h =>
      intro k hk
      obtain rfl : k = 0 := by simpa using hk
      exact ⟨h, fun h => absurd h (by omega)⟩
    | snoc l r s hl h hne ih =>
      intro k hk
      rcases Nat.lt_or_ge k (l ++ [r]).length with h1 | h1
      · obtain ⟨i1, i2⟩ := ih k h1
        refine ⟨by rw [List.getElem_append_left h1]; exact i1, fun h0 => ?_⟩
        rw [List.getElem_append_left h1, List.getElem_append_left (by omega)]
        exact i2 h0
      · have hl' : (l ++ [r]).length = l.length + 1 := by simp
        obtain rfl : k = l.length + 1 := by simp at hk h1; omega
        obtain ⟨e1, e2⟩ := last_two l r s
        rw [e1]
        refine ⟨h, fun _ => ?_⟩
        show ((l ++ [r] ++ [s])[l.length]).1 ≠ s.1
        rw [e2]
        exact hne
  · refine list_snoc_ind (P := fun l : List RunP => (∀ k, (h : k < l.length) → 1 ≤ l[k].2 ∧ (0 < k → (l[k - 1]'(by omega)).1 ≠ l[k].1)) → Neat l) (fun _ => .nil) (fun b x ih h => ?_) l
    have hb : Neat b := ih fun k hk => by
      have := h k (by simp; omega)
      refine ⟨by have := this.1; rw [List.getElem_append_left hk] at this; exact this, fun h0 => ?_⟩
      have := this.2 h0
      rw [List.getElem_append_left hk, List.getElem_append_left (by omega)] at this
      exact this
    rcases snoc_cases b with rfl | ⟨m, r, rfl⟩
    · exact .one x (by simpa using (h 0 (by simp)).1)
    · have hl : (m ++ [r]).length = m.length + 1 := by simp
      have h1 := h (m.length + 1) (by simp)
      obtain ⟨e1, e2⟩ := last_two m r x
      rw [e1] at h1
      refine .snoc m r x hb h1.1 ?_
      have : ((m ++ [r] ++ [x])[m.length]).1 ≠ x.1 := h1.2 (by omega)
      rw [e2] at this
      exact this

theorem neat_take {l : List RunP} {k : Nat} (h : Neat (l.take k)) (hk : k < l.length) (h1 : 1 ≤ l[k].2) (h2 : (h0 : 0 < k) → (l[k - 1]'(by omega)).1 ≠ l[k].1) : Neat (l.take (k + 1)) := by
  rw [neat_idx] at h ⊢
  intro j hj
  have hj' : j ≤ k := by rw [List.length_take] at hj; omega
  rcases Nat.lt_or_ge j k with hlt | hge
  · have := h j (by rw [List.length_take]; omega)
    simp only [List.getElem_take] at this ⊢
    exact this
  · obtain rfl : j = k := by omega
    simp only [List.getElem_take]
    exact ⟨h1, h2⟩
theorem goodB_no {l : List RunP} {k : Nat} (hk : k < l.length) (h : l[k].2 < 1 ∨ ∃ h0 : 0 < k, (l[k - 1]'(by omega)).1 = l[k].1) : goodB l = false := by
  cases hg : goodB l with
  | false => rfl
  | true =>
    have := (neat_idx l).1 ((goodB_iff l).1 hg).2 k hk
    rcases h with h | ⟨h0, h⟩
    · omega
    · exact absurd h (this.2 h0)
theorem goodB_neat {l : List RunP} (h : Neat l) : goodB l = decide ((totalOf l : Int) ≤ 4096) := by
  rw [show decide ((totalOf l : Int) ≤ 4096) = decide (totalOf l ≤ 4096) from decide_eq_decide.2 (by omega)]
  have h2 := goodB_iff l
  unfold totalOf
  by_cases hs : sumN l ≤ 4096
  · rw [if_pos hs, decide_eq_true hs]; exact h2.2 ⟨hs, h⟩
  · rw [if_neg hs]
    cases hg : goodB l with
    | false => simp
    | true => exact absurd (h2.1 hg).1 hs

theorem sumN_cut (l : List RunP) (k : Nat) : sumN l = sumN (l.take k) + sumN (l.drop k) := by
  unfold sumN; rw [← List.sum_append, ← List.map_append, List.take_append_drop]
theorem bytesOf_at {l : List RunP} {k p : Nat} (hk : k < l.length) (h0 : sumN (l.take k) ≤ p) (h1 : p < sumN (l.take (k + 1))) : (bytesOf l).getD p 0 = l[k].1 := by
  have e : bytesOf l = bytesOf (l.take (k + 1)) ++ bytesOf (l.drop (k + 1)) := by rw [← bytesOf_append, List.take_append_drop]
  have hs := sumN_succ l k hk
  have hb := bytesOf_len (l.take k)
  have e2 := bytesOf_succ l k hk
  rw [List.getD_eq_getElem?_getD, e, List.getElem?_append_left (by rw [bytesOf_len]; exact h1), e2, List.getElem?_append_right (by omega), List.getElem?_replicate, if_pos (by omega)]
  rfl
end Go.Proofs.Ythdflibljngjiaa

/-
  The rows of a text tile its signs; the row of a place: layer 13, as plain lists.
-/
import Derived.Test.YtnkhlallnblfmaaM13r
import Derived.Test.YtnkhlallnblfmaaM12p
namespace Go.Proofs.Ytnkhlallnblfmaa
open Go.RowKit

/-- row t goes from sign b t to sign b (t + 1), all of one class, which the next one has not -/
structure TileB (L : List (Nat × Nat)) (k : Nat) (R : List RwO) (b : Nat → Nat) : Prop where
  zero : b 0 = 0
  last : b R.length = k
  less : ∀ t, t < R.length → b t < b (t + 1)
  row : ∀ t, t < R.length → R[t]? = some (width (L.take (b t)), width (L.take (b (t + 1))), clsM L (b t))
  one : ∀ t m, t < R.length → b t ≤ m → m < b (t + 1) → clsM L m = clsM L (b t)
  next : ∀ t, t + 1 < R.length → clsM L (b (t + 1)) ≠ clsM L (b t)
theorem tile_step {L : List (Nat × Nat)} {k : Nat} {R : List RwO} {b : Nat → Nat} (h : TileB L k R b) : ∃ b', TileB L (k + 1) (rowStep R (signO L k)) b' := by
  rcases List.eq_nil_or_concat R with rfl | ⟨M, r, rfl⟩
  · have h0 : k = 0 := by have := h.last; rw [List.length_nil, h.zero] at this; exact this.symm
    subst h0
    rw [rowStep_nil]
    refine ⟨fun t => t, rfl, rfl, fun t _ => Nat.lt_succ_self t, fun t ht => ?_, fun t m ht h1 h2 => ?_, fun t ht => ?_⟩
    · obtain rfl : t = 0 := by simp at ht; exact ht
      rfl
    · obtain rfl : m = t := by omega
      rfl
    · simp at ht
  · rw [List.concat_eq_append] at h ⊢
    have hl : (M ++ [r]).length = M.length + 1 := by simp
    have hr := h.row M.length (by omega)
    have hlast : b (M.length + 1) = k := by rw [← hl]; exact h.last
    have hlt := h.less M.length (by omega)
    rw [List.getElem?_append_right (Nat.le_refl _), Nat.sub_self] at hr
    have hr' : r = (width (L.take (b M.length)), width (L.take (b (M.length + 1))), clsM L (b M.length)) := by simpa using hr
    have hM : ∀ t, t < M.length → M[t]? = some (width (L.take (b t)), width (L.take (b (t + 1))), clsM L (b t)) := fun t ht => by
      have := h.row t (by omega)
      rwa [List.getElem?_append_left ht] at this
    rw [rowStep_snoc]
    split
    · next hc =>
      have hc' : clsM L (b M.length) = clsM L k := by rw [hr'] at hc; exact hc
      have hl2 : (M ++ [(r.1, (signO L k).2.1, r.2.2)]).length = M.length + 1 := by simp
      have key : ∀ t, t < M.length + 1 → (if t < M.length + 1 then b t else k + 1) = b t := fun t ht => if_pos ht
      refine ⟨fun t => if t < M.length + 1 then b t else k + 1, ?_, ?_, fun t ht => ?_, fun t ht => ?_, fun t m ht h1 h2 => ?_, fun t ht => ?_⟩
      · show (if 0 < M.length + 1 then b 0 else k + 1) = 0
        rw [if_pos (by omega)]; exact h.zero
      · rw [hl2]; exact if_neg (by omega)
      · rw [hl2] at ht
        show (if t < M.length + 1 then b t else k + 1) < (if t + 1 < M.length + 1 then b (t + 1) else k + 1)
        rw [key t ht]
        split
        · exact h.less t (by omega)
        · have := h.less t (by omega)
          obtain rfl : t = M.length := by omega
          omega
      · rw [hl2] at ht
        show _ = some (width (L.take (if t < M.length + 1 then b t else k + 1)), width (L.take (if t + 1 < M.length + 1 then b (t + 1) else k + 1)), clsM L (if t < M.length + 1 then b t else k + 1))
        rw [key t ht]
        rcases Nat.lt_or_ge t M.length with h1 | h1
        · rw [if_pos (by omega), List.getElem?_append_left h1]
          exact hM t h1
        · obtain rfl : t = M.length := by omega
          rw [if_neg (by omega), List.getElem?_append_right (Nat.le_refl _), Nat.sub_self, hr']
          rfl
      · rw [hl2] at ht
        change (if t < M.length + 1 then b t else k + 1) ≤ m at h1
        change m < (if t + 1 < M.length + 1 then b (t + 1) else k + 1) at h2
        show _ = clsM L (if t < M.length + 1 then b t else k + 1)
        rw [key t ht] at h1 ⊢
        split at h2
        · exact h.one t m (by omega) h1 h2
        · obtain rfl : t = M.length := by omega
          rcases Nat.lt_or_ge m k with h3 | h3
          · exact h.one M.length m (by omega) h1 (by omega)
          · obtain rfl : m = k := by omega
            exact hc'.symm
      · rw [hl2] at ht
        show clsM L (if t + 1 < M.length + 1 then b (t + 1) else k + 1) ≠ clsM L (if t < M.length + 1 then b t else k + 1)
        rw [key t (by omega), if_pos ht]
        exact h.next t (by omega)
    · next hc =>
      have hc' : clsM L (b M.length) ≠ clsM L k := by rw [hr'] at hc; exact hc
      have hl2 : (M ++ [r] ++ [signO L k]).length = M.length + 2 := by simp
      have key : ∀ t, t < M.length + 2 → (if t < M.length + 2 then b t else k + 1) = b t := fun t ht => if_pos ht
      refine ⟨fun t => if t < M.length + 2 then b t else k + 1, ?_, ?_, fun t ht => ?_, fun t ht => ?_, fun t m ht h1 h2 => ?_, fun t ht => ?_⟩
      · show (if 0 < M.length + 2 then b 0 else k + 1) = 0
        rw [if_pos (by omega)]; exact h.zero
      · rw [hl2]; exact if_neg (by omega)
      · rw [hl2] at ht
        show (if t < M.length + 2 then b t else k + 1) < (if t + 1 < M.length + 2 then b (t + 1) else k + 1)
        rw [key t ht]
        split
        · exact h.less t (by omega)
        · obtain rfl : t = M.length + 1 := by omega
          omega
      · rw [hl2] at ht
        show _ = some (width (L.take (if t < M.length + 2 then b t else k + 1)), width (L.take (if t + 1 < M.length + 2 then b (t + 1) else k + 1)), clsM L (if t < M.length + 2 then b t else k + 1))
        rw [key t ht]
        rcases Nat.lt_or_ge t (M.length + 1) with h1 | h1
        · rw [if_pos (by omega), List.getElem?_append_left (by omega)]
          exact h.row t (by omega)
        · obtain rfl : t = M.length + 1 := by omega
          rw [if_neg (by omega), List.getElem?_append_right (by omega), hl, Nat.sub_self, hlast]
          rfl
      · rw [hl2] at ht
        change (if t < M.length + 2 then b t else k + 1) ≤ m at h1
        change m < (if t + 1 < M.length + 2 then b (t + 1) else k + 1) at h2
        show _ = clsM L (if t < M.length + 2 then b t else k + 1)
        rw [key t ht] at h1 ⊢
        split at h2
        · exact h.one t m (by omega) h1 h2
        · obtain rfl : t = M.length + 1 := by omega
          rw [hlast] at h1 ⊢
          obtain rfl : m = k := by omega
          rfl
      · rw [hl2] at ht
        show clsM L (if t + 1 < M.length + 2 then b (t + 1) else k + 1) ≠ clsM L (if t < M.length + 2 then b t else k + 1)
        rw [key t (by omega), if_pos ht]
        rcases Nat.lt_or_ge (t + 1) (M.length + 1) with h1 | h1
        · exact h.next t (by omega)
        · obtain rfl : t = M.length := by omega
          rw [hlast]
          exact hc'.symm
theorem tile_to (L : List (Nat × Nat)) (k : Nat) : ∃ b, TileB L k (rowsTo L k) b := by
  induction k with
  | zero => exact ⟨fun _ => 0, rfl, rfl, fun t ht => by simp [rowsTo] at ht, fun t ht => by simp [rowsTo] at ht, fun t m ht => by simp [rowsTo] at ht, fun t ht => by simp [rowsTo] at ht⟩
  | succ k ih =>
    obtain ⟨b, hb⟩ := ih
    exact tile_step hb
theorem TileB.mono {L : List (Nat × Nat)} {k : Nat} {R : List RwO} {b : Nat → Nat} (h : TileB L k R b) : ∀ {s t : Nat}, s ≤ t → t ≤ R.length → b s ≤ b t := by
  intro s t hst
  induction hst with
  | refl => intro _; exact Nat.le_refl _
  | @step t hst ih =>
    intro ht
    have h1 := h.less t (by omega)
    have h2 := ih (by omega)
    exact Nat.le_trans h2 (Nat.le_of_lt h1)
/-- the row that a sign lies in -/
theorem TileB.at_ {L : List (Nat × Nat)} {k : Nat} {R : List RwO} {b : Nat → Nat} (h : TileB L k R b) {i : Nat} (hi : i < k) : ∃ t, t < R.length ∧ b t ≤ i ∧ i < b (t + 1) := by
  have key : ∀ n, n ≤ R.length → i < b n → ∃ t, t < n ∧ b t ≤ i ∧ i < b (t + 1) := by
    intro n
    induction n with
    | zero => intro _ h0; rw [h.zero] at h0; omega
    | succ n ih =>
      intro hn hb
      rcases Nat.lt_or_ge i (b n) with h1 | h1
      · obtain ⟨t, h2, h3⟩ := ih (by omega) h1
        exact ⟨t, by omega, h3⟩
      · exact ⟨n, by omega, h1, hb⟩
  obtain ⟨t, h1, h2⟩ := key R.length (Nat.le_refl _) (by rw [h.last]; exact hi)
  exact ⟨t, h1, h2⟩
end Go.Proofs.Ytnkhlallnblfmaa

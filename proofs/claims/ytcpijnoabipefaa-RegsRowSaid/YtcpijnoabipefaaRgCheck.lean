/-
  The landed check, Get: layer 9.
-/
import Derived.Test.YtcpijnoabipefaaRgStore
import Derived.Test.YtcpijnoabipefaaM04o
namespace Go.Proofs.Ytcpijnoabipefaa
open Go.RowKit

section
variable {P : Nat → Prop} {w : World} {g : Nat} {R : List RegP}
/-- the cells of one register -/
theorem Rgs.cells (h : Rgs w P g R) {i : Nat} (hi : i < 38) : ∃ A c, (w.cell? ⟨g, 1 + i * 4, none⟩ = some (.bool (atR R i).full) ∧ w.cell? ⟨g, 1 + i * 4 + 1, none⟩ = some (.string ⟨(atR R i).S.toArray⟩) ∧ w.cell? ⟨g, 1 + i * 4 + 1 + 1, none⟩ = some (.slice A (atR R i).l.length c) ∧ w.cell? ⟨g, 1 + i * 4 + 1 + 2, none⟩ = some (.bool (atR R i).lines)) ∧ TxO w P A (atR R i).S (atR R i).l := by
  obtain ⟨Z, h1, h2, h3⟩ := h.mem
  have hz : Z.length = 38 := by have := h.ok.len; rw [← h1, List.length_map] at this; exact this
  have hzi : Z[i]? = some (Z[i]'(by omega)) := List.getElem?_eq_getElem _
  have hR : atR R i = (Z[i]'(by omega)).reg := by unfold atR; rw [← h1, List.getElem?_map, hzi]; rfl
  have key : ∀ j, j < 4 → w.cell? ⟨g, 1 + i * 4 + j, none⟩ = (Z[i]'(by omega)).cells[j]? := fun j hj => by
    rw [h2.cell, ← flatG_get hzi j hj, show 1 + i * 4 + j = (i * 4 + j) + 1 by omega]
    simp
  rw [hR]
  exact ⟨(Z[i]'(by omega)).A, (Z[i]'(by omega)).c, ⟨key 0 (by decide), key 1 (by decide), key 2 (by decide), key 3 (by decide)⟩, h3 _ (List.getElem_mem _)⟩
theorem Rgs.grow (h : Rgs w P g R) : Grow w (fun w' => Rgs w' P g R) := fun _ hb => h.fresh hb
end
/-- one register, for good -/
theorem Rgs.one {P : Nat → Prop} {w : World} {g : Nat} {R : List RegP} (h : Rgs w P g R) {i : Nat} (hi : i < 38) : ∃ A c, Grow w (fun w' => (w'.cell? ⟨g, 1 + i * 4, none⟩ = some (.bool (atR R i).full) ∧ w'.cell? ⟨g, 1 + i * 4 + 1, none⟩ = some (.string ⟨(atR R i).S.toArray⟩) ∧ w'.cell? ⟨g, 1 + i * 4 + 1 + 1, none⟩ = some (.slice A (atR R i).l.length c) ∧ w'.cell? ⟨g, 1 + i * 4 + 1 + 2, none⟩ = some (.bool (atR R i).lines)) ∧ TxO w' P A (atR R i).S (atR R i).l) := by
  obtain ⟨A, c, ⟨h0, h1, h2, h3⟩, ht⟩ := h.cells hi
  exact ⟨A, c, fun w' hb => ⟨⟨(hb.cell h.tch).trans h0, (hb.cell h.tch).trans h1, (hb.cell h.tch).trans h2, (hb.cell h.tch).trans h3⟩, ht.fresh hb⟩⟩

set_option maxHeartbeats 2000000 in
theorem rgCheck_any {P : Nat → Prop} {w : World} {g : Nat} {R : List RegP} (h : Rgs w P g R) (n : Int) (A : Option Addr) (c : Nat) (S : List UInt8) (l : List RunP) (b : Bool) (hx : Txu w A S l) :
    Calls Try.prog 22 #[.pointer (some ⟨g, 0, none⟩), .int .i32 n, .agg #[.string ⟨S.toArray⟩, .slice A l.length c, .bool b]] w fun e w' => e = .returned (.int .i64 ((checkR n S l : Nat) : Int)) ∧ Below w.heap.size w w' := by
  have K := Lib.hid ((boxN w #[.string ⟨S.toArray⟩, .slice A l.length c, .bool b] 33).and (((grow_txu hx).and h.grow).alloc _))
  clear h hx
  go_enter Try.func22, Try.ntmps22
  go_upto_region 1 with fail
  generalize w.alloc (.cells #[.string ⟨S.toArray⟩, .slice A l.length c, .bool b] 33) = wb at *
  obtain ⟨y0, y1, y2⟩ := en_cells K.out.now.1.1
  by_cases hu : unN n = true
  · by_cases hg : goodT S l = true
    · have HR : Hid (checkR n S l = 0) := if_pos ⟨Or.inl hu, hg⟩
      go_wp2_with (first
        | (go_at_call 26; refine (rgUsable_any K.out.now.2.2).mono ?_; rintro e w' ⟨rfl, hw⟩; subst w')
        | (go_at_call 21; refine (rgUnnamed_any n _).mono ?_; rw [hu]; rintro e w' ⟨rfl, hw⟩; subst w')
        | (go_at_call 35; refine (stpGood_any A c _ S l _ (Nat.le_refl _) K.out.now.2.1).mono ?_; rw [hg]; rintro e w1 ⟨rfl, bb⟩))
      go_ret
      exact ⟨by rw [HR.out]; rfl, (K.out.step bb).now.1.2⟩
    · have HR : Hid (checkR n S l = 2) := if_neg (fun h => hg h.2)
      rw [Bool.not_eq_true] at hg
      go_wp2_with (first
        | (go_at_call 26; refine (rgUsable_any K.out.now.2.2).mono ?_; rintro e w' ⟨rfl, hw⟩; subst w')
        | (go_at_call 21; refine (rgUnnamed_any n _).mono ?_; rw [hu]; rintro e w' ⟨rfl, hw⟩; subst w')
        | (go_at_call 35; refine (stpGood_any A c _ S l _ (Nat.le_refl _) K.out.now.2.1).mono ?_; rw [hg]; rintro e w1 ⟨rfl, bb⟩))
      go_ret
      exact ⟨by rw [HR.out]; rfl, (K.out.step bb).now.1.2⟩
  · have hu' : unN n = false := by simpa using hu
    by_cases hl : letN n = true
    · by_cases hg : goodT S l = true
      · have HR : Hid (checkR n S l = 0) := if_pos ⟨Or.inr (Or.inl hl), hg⟩
        clear hu
        go_wp2_with (first
          | (go_at_call 26; refine (rgUsable_any K.out.now.2.2).mono ?_; rintro e w' ⟨rfl, hw⟩; subst w')
          | (go_at_call 21; refine (rgUnnamed_any n _).mono ?_; rw [hu']; rintro e w' ⟨rfl, hw⟩; subst w')
          | (go_at_call 33; refine (rgLetter_any n _).mono ?_; rw [hl]; rintro e w' ⟨rfl, hw⟩; subst w')
          | (go_at_call 35; refine (stpGood_any A c _ S l _ (Nat.le_refl _) K.out.now.2.1).mono ?_; rw [hg]; rintro e w1 ⟨rfl, bb⟩))
        go_ret
        exact ⟨by rw [HR.out]; rfl, (K.out.step bb).now.1.2⟩
      · have HR : Hid (checkR n S l = 2) := if_neg (fun h => hg h.2)
        rw [Bool.not_eq_true] at hg
        clear hu
        go_wp2_with (first
          | (go_at_call 26; refine (rgUsable_any K.out.now.2.2).mono ?_; rintro e w' ⟨rfl, hw⟩; subst w')
          | (go_at_call 21; refine (rgUnnamed_any n _).mono ?_; rw [hu']; rintro e w' ⟨rfl, hw⟩; subst w')
          | (go_at_call 33; refine (rgLetter_any n _).mono ?_; rw [hl]; rintro e w' ⟨rfl, hw⟩; subst w')
          | (go_at_call 35; refine (stpGood_any A c _ S l _ (Nat.le_refl _) K.out.now.2.1).mono ?_; rw [hg]; rintro e w1 ⟨rfl, bb⟩))
        go_ret
        exact ⟨by rw [HR.out]; rfl, (K.out.step bb).now.1.2⟩
    · have hl' : letN n = false := by simpa using hl
      by_cases h95 : n = 95
      · subst h95
        by_cases hg : goodT S l = true
        · have HR : Hid (checkR 95 S l = 0) := if_pos ⟨Or.inr (Or.inr rfl), hg⟩
          clear hu hl
          go_wp2_with (first
            | (go_at_call 26; refine (rgUsable_any K.out.now.2.2).mono ?_; rintro e w' ⟨rfl, hw⟩; subst w')
            | (go_at_call 21; refine (rgUnnamed_any _ _).mono ?_; rw [hu']; rintro e w' ⟨rfl, hw⟩; subst w')
            | (go_at_call 33; refine (rgLetter_any _ _).mono ?_; rw [hl']; rintro e w' ⟨rfl, hw⟩; subst w')
            | (go_at_call 35; refine (stpGood_any A c _ S l _ (Nat.le_refl _) K.out.now.2.1).mono ?_; rw [hg]; rintro e w1 ⟨rfl, bb⟩))
          go_ret
          exact ⟨by rw [HR.out]; rfl, (K.out.step bb).now.1.2⟩
        · have HR : Hid (checkR 95 S l = 2) := if_neg (fun h => hg h.2)
          rw [Bool.not_eq_true] at hg
          clear hu hl
          go_wp2_with (first
            | (go_at_call 26; refine (rgUsable_any K.out.now.2.2).mono ?_; rintro e w' ⟨rfl, hw⟩; subst w')
            | (go_at_call 21; refine (rgUnnamed_any _ _).mono ?_; rw [hu']; rintro e w' ⟨rfl, hw⟩; subst w')
            | (go_at_call 33; refine (rgLetter_any _ _).mono ?_; rw [hl']; rintro e w' ⟨rfl, hw⟩; subst w')
            | (go_at_call 35; refine (stpGood_any A c _ S l _ (Nat.le_refl _) K.out.now.2.1).mono ?_; rw [hg]; rintro e w1 ⟨rfl, bb⟩))
          go_ret
          exact ⟨by rw [HR.out]; rfl, (K.out.step bb).now.1.2⟩
      · have HR : Hid (checkR n S l = 2) := if_neg (fun h => by rcases h.1 with h | h | h <;> contradiction)
        have e95 : (n != 95) = true := by simpa using h95
        clear hu hl
        go_wp2_with (first
          | (go_at_call 26; refine (rgUsable_any K.out.now.2.2).mono ?_; rintro e w' ⟨rfl, hw⟩; subst w')
          | (go_at_call 21; refine (rgUnnamed_any n _).mono ?_; rw [hu']; rintro e w' ⟨rfl, hw⟩; subst w')
          | (go_at_call 33; refine (rgLetter_any n _).mono ?_; rw [hl']; rintro e w' ⟨rfl, hw⟩; subst w'))
        go_ret
        exact ⟨by rw [HR.out]; rfl, K.out.now.1.2⟩
end Go.Proofs.Ytcpijnoabipefaa

/-
  The contract of the document's own answer, layer 1: Parse.
-/
import Derived.Test.YtoodneheadknoaaRefPrint
import Derived.Test.YtoodneheadknoaaRefScan
namespace Go.Proofs.Ytoodneheadknoaa
open Go.RowKit

theorem told_scan {S : List UInt8} {l : Nat} (hl : IsLab (scan (decide (S ≠ [45])) S (S.length + 1)).2 l) (hne : printN l ≠ S) : Told S none := by
  intro m hm hp
  subst hp
  exact hne (by rw [bits_eq hl.1 hm (fun i hi => by rw [hl.2 i hi, scan_print hm i hi])])
theorem told_long {S : List UInt8} (h : 192 < S.length) : Told S none := by
  intro m _ hp
  subst hp
  have := print_short (a := m)
  omega

theorem marks_sep {nd : Bool} {st : Nat × (Nat → Bool)} (h : st.1 < 64) (hnd : nd = true) : (marks st.2).setIfInBounds st.1 (.bool true) = marks (sepStep nd st).2 := by
  rw [marks_set]
  exact marks_congr fun i _ => by
    by_cases hi : i = st.1
    · simp [sepStep, hi, h, hnd]
    · simp [sepStep, hi]
theorem marks_nosep {nd : Bool} {st : Nat × (Nat → Bool)} (h : ¬ (st.1 < 64 ∧ nd = true)) : marks st.2 = marks (sepStep nd st).2 :=
  marks_congr fun i _ => by
    simp only [sepStep]
    rw [if_neg (fun hh => h hh.2)]

set_option maxRecDepth 100000 in
set_option maxHeartbeats 2000000 in
theorem refParse_any (S : List UInt8) (hs : S.length ≤ maxLen) (w : World) :
    Calls Try.prog 27 #[.string ⟨S.toArray⟩] w fun e w' => ∃ r, e = .returned (parseEnd r) ∧ Told S r ∧ Below w.heap.size w w' := by
  unfold maxLen at hs
  by_cases hlong : 192 < S.length
  · have HT := Lib.hid (told_long hlong)
    go_enter Try.func27, Try.ntmps27
    go_wp2
    go_ret2
    exact ⟨none, rfl, HT.out, Below.refl _ _⟩
  · go_enter Try.func27, Try.ntmps27
    go_wp2_with ((with_reducible refine at_alloc 4 46 ?_); refine wpList_newRow rfl 46 rfl _ zero_set ?_; intro w1 g hg hl hs1 hb1)
    generalize hndd : decide (S ≠ [45]) = nd
    have HND := Lib.hid hndd
    have hq1 : (S == [45]) = !nd := by rw [← hndd]; by_cases h : S = [45] <;> simp [h]
    have hq2 : (S != [45]) = nd := by rw [← hndd]; by_cases h : S = [45] <;> simp [h]
    clear hndd
    go_loopw [5, 6] (fun n i wr => ∃ k m : Nat, k ≤ S.length + 1 ∧ i = .int .i64 k ∧ n = .int .i64 m ∧ m = (scan nd S k).1 ∧ Blk wr g 46 (marks (scan nd S k).2) ∧ Below w.heap.size w wr) (fun _ i _ => S.length + 1 - (intOf i).toNat)
    case atStart => exact ⟨0, 0, by omega, rfl, rfl, rfl, hs1, hb1⟩
    case round =>
      clear hs1 hb1 hl
      obtain ⟨k, m, hk, rfl, rfl, hm, hbk, hb⟩ := hrel
      have HM := Lib.hid hm
      by_cases hend : k = S.length + 1
      · subst hend
        have z := hb.size
        clear hm
        go_wp2_with (first
          | ((with_reducible refine at_load 46 (.tmp 4) ?_); refine wpList_load_row rfl 46 (.tmp 4) rfl g rfl 46 _ (0, 0) _ hbk Try.underlying46 rfl (size_marks _) ?_)
          | (go_at_call 31; refine (refLabel_any _ _).mono ?_; rintro e w3 ⟨l, rfl, hl3, hb3⟩; have z3 := hb3.size; have hl64 := hl3.1)
          | (go_at_call 29; refine (refPrint_any l hl64 _).mono ?_; rintro e w4 ⟨rfl, hb4⟩))
        all_goals first
          | (have h1 : (!printN l == S) = true := by assumption
             go_ret2
             refine ⟨none, rfl, told_scan (l := l) ?_ (by simpa using h1), (hb.trans (hb3.mono z)).trans (hb4.mono (by omega))⟩
             rw [HND.out]; exact hl3)
          | (have h1 : (!printN l == S) = false := by assumption
             go_ret2
             exact ⟨some l, rfl, ⟨hl64, by simpa using h1⟩, (hb.trans (hb3.mono z)).trans (hb4.mono (by omega))⟩)
      · have hkl : k ≤ S.length := by omega
        have hm2 : m < 20000 := by rw [HM.out]; exact scan_small nd S k hkl
        clear hm
        by_cases hlt : k < S.length
        · have hget : ({ data := S.toArray } : ByteArray)[k]'(by simpa [ByteArray.size] using hlt) = S[k] := rfl
          have HS := Lib.hid (scan_succ nd S k hlt)
          generalize S[k] = b at *
          by_cases hd : isDig b = true ∧ m < 1000
          · obtain ⟨hd1, hd2⟩ := hd
            have hdn := dig_nat hd1
            have h1 : (48 : Int) ≤ (b.toNat : Int) := by omega
            have h2 : (b.toNat : Int) ≤ 57 := by omega
            have HN : Hid (scan nd S (k + 1) = (10 * m + (b.toNat - 48), (scan nd S k).2)) := by
              show scan nd S (k + 1) = _
              rw [HS.out]; simp only [stepO]; rw [← HM.out, if_pos ⟨hd1, hd2⟩]
            clear hd1
            go_wp2
            go_roundw
            case rel => exact ⟨k + 1, _, by omega, by go_num, by congr 1; rw [HN.out]; simp; omega, rfl, by rw [HN.out]; exact hbk, hb⟩
            case measure => first | (simp [intOf]; done) | (simp [intOf]; omega)
          · have HN : Hid (scan nd S (k + 1) = sepStep nd (scan nd S k)) := by
              show scan nd S (k + 1) = _
              rw [HS.out]; simp only [stepO]; rw [← HM.out, if_neg hd]
            have hcase : (b.toNat : Int) < 48 ∨ ((48 : Int) ≤ (b.toNat : Int) ∧ (57 : Int) < (b.toNat : Int)) ∨ ((48 : Int) ≤ (b.toNat : Int) ∧ (b.toNat : Int) ≤ 57 ∧ 1000 ≤ m) := by
              unfold isDig at hd
              simp at hd
              omega
            clear hd HS
            by_cases hst : m < 64 ∧ nd = true
            · obtain ⟨hst1, rfl⟩ := hst
              have hc1 : wr.cell? ⟨g, m, none⟩ = some (.bool ((scan true S k).2 m)) := by rw [hbk.cell, marks_get _ hst1]
              have hf := hbk.frozen m
              have STEP : Hid (Blk (wr.setCell ⟨g, m, none⟩ (.bool true)) g 46 (marks (scan true S (k + 1)).2)) := by
                have h1 := hbk.set_ m (.bool true)
                rw [HM.out, marks_sep (by rw [← HM.out]; exact hst1) rfl, ← HN.out, ← HM.out] at h1
                exact h1
              rcases hcase with h1 | ⟨h1, h2⟩ | ⟨h1, h2, h3⟩
              rotate_right
              · omega
              all_goals
                go_wp2
                go_roundw
                case rel => exact ⟨k + 1, 0, by omega, by go_num, rfl, by rw [HN.out]; rfl, STEP.out, hb.setCell (by simpa using hg) _⟩
                case measure => first | (simp [intOf]; done) | (simp [intOf]; omega)
            · have STEP : Hid (Blk wr g 46 (marks (scan nd S (k + 1)).2)) := by
                show Blk wr g _ _
                rw [HN.out, ← marks_nosep (by rw [← HM.out]; exact hst)]
                exact hbk
              by_cases hst1 : m < 64
              · obtain rfl : nd = false := by
                  cases nd with
                  | false => rfl
                  | true => exact absurd ⟨hst1, rfl⟩ hst
                clear hst
                rcases hcase with h1 | ⟨h1, h2⟩ | ⟨h1, h2, h3⟩
                rotate_right
                · omega
                all_goals
                  go_wp2
                  go_roundw
                  case rel => exact ⟨k + 1, 0, by omega, by go_num, rfl, by rw [HN.out]; rfl, STEP.out, hb⟩
                  case measure => first | (simp [intOf]; done) | (simp [intOf]; omega)
              · clear hst
                rcases hcase with h1 | ⟨h1, h2⟩ | ⟨h1, h2, h3⟩
                all_goals
                  go_wp2
                  go_roundw
                  case rel => exact ⟨k + 1, 0, by omega, by go_num, rfl, by rw [HN.out]; rfl, STEP.out, hb⟩
                  case measure => first | (simp [intOf]; done) | (simp [intOf]; omega)
        · obtain rfl : k = S.length := by omega
          have HN := Lib.hid (scan_last nd S)
          by_cases hst : m < 64 ∧ nd = true
          · obtain ⟨hst1, rfl⟩ := hst
            have hc1 : wr.cell? ⟨g, m, none⟩ = some (.bool ((scan true S S.length).2 m)) := by rw [hbk.cell, marks_get _ hst1]
            have hf := hbk.frozen m
            have STEP : Hid (Blk (wr.setCell ⟨g, m, none⟩ (.bool true)) g 46 (marks (scan true S (S.length + 1)).2)) := by
              have h1 := hbk.set_ m (.bool true)
              rw [HM.out, marks_sep (by rw [← HM.out]; exact hst1) rfl, ← HN.out, ← HM.out] at h1
              exact h1
            go_wp2
            go_roundw
            case rel => exact ⟨S.length + 1, 0, by omega, by go_num, rfl, by rw [HN.out]; rfl, STEP.out, hb.setCell (by simpa using hg) _⟩
            case measure => first | (simp [intOf]; done) | (simp [intOf]; omega)
          · have STEP : Hid (Blk wr g 46 (marks (scan nd S (S.length + 1)).2)) := by
              show Blk wr g _ _
              rw [HN.out, ← marks_nosep (by rw [← HM.out]; exact hst)]
              exact hbk
            by_cases hst1 : m < 64
            · obtain rfl : nd = false := by
                cases nd with
                | false => rfl
                | true => exact absurd ⟨hst1, rfl⟩ hst
              clear hst
              go_wp2
              go_roundw
              case rel => exact ⟨S.length + 1, 0, by omega, by go_num, rfl, by rw [HN.out]; rfl, STEP.out, hb⟩
              case measure => first | (simp [intOf]; done) | (simp [intOf]; omega)
            · clear hst
              go_wp2
              go_roundw
              case rel => exact ⟨S.length + 1, 0, by omega, by go_num, rfl, by rw [HN.out]; rfl, STEP.out, hb⟩
              case measure => first | (simp [intOf]; done) | (simp [intOf]; omega)
end Go.Proofs.Ytoodneheadknoaa

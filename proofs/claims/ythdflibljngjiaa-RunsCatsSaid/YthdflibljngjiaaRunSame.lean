/-
  Contracts of the document's own answers, layer 3: Same.
-/
import Derived.Test.YthdflibljngjiaaRunPack
namespace Go.Proofs.Ythdflibljngjiaa
open Go.RowKit

set_option maxHeartbeats 1000000 in
theorem refSame_any (A A2 : Option Addr) (c d B B2 : Nat) (l m : List RunP) (hl : l.length ≤ maxLen) (hm : m.length ≤ maxLen) (w : World) (_hB : B ≤ w.heap.size) (_hB2 : B2 ≤ w.heap.size) (h1 : Row w B A (flatR l)) (h2 : Row w B2 A2 (flatR m)) :
    Calls Try.prog 14 #[.slice A l.length c, .slice A2 m.length d] w fun e w' => e = .returned (.bool (decide (l = m))) ∧ Below w.heap.size w w' := by
  unfold maxLen at hl hm
  go_enter Try.func14, Try.ntmps14
  by_cases hlen : l.length = m.length
  · generalize hn : m.length = n at *
    have HN := Lib.hid hn
    clear hn
    subst hlen
    go_wp2
    go_loopw [5] (fun i wr => ∃ k : Nat, k ≤ l.length ∧ i = .int .i64 k ∧ Hid (l.take k = m.take k) ∧ Row wr B A (flatR l) ∧ Row wr B2 A2 (flatR m) ∧ Below w.heap.size w wr) (fun i _ => l.length - (intOf i).toNat)
    case atStart => exact ⟨0, Nat.zero_le _, rfl, rfl, h1, h2, Below.refl _ _⟩
    case round =>
      obtain ⟨k, hk, rfl, HT, h1, h2, hbl⟩ := hrel
      by_cases hlt : k < l.length
      · have hlt2 : k < m.length := by rw [HN.out]; exact hlt
        obtain ⟨ad, rfl, _, c0, c1⟩ := run_cells h1 hlt
        obtain ⟨ae, rfl, _, d0, d1⟩ := run_cells h2 hlt2
        have HT2 : Hid (l[k] = m[k] → l.take (k + 1) = m.take (k + 1)) := fun h => by
          have e1 := List.take_succ_eq_append_getElem hlt
          have e2 := List.take_succ_eq_append_getElem hlt2
          rw [e1, e2, HT.out, h]
        have HF : Hid (l[k] ≠ m[k] → l ≠ m) := fun hne e => hne (by subst e; rfl)
        generalize l[k] = r at *
        generalize m[k] = s at *
        obtain ⟨x, i⟩ := r
        obtain ⟨y, j⟩ := s
        dsimp only at *
        by_cases he : x = y ∧ i = j
        · obtain ⟨rfl, rfl⟩ := he
          go_wp2
          go_quiet (fail)
          go_wp2
          go_roundw
          case rel => exact ⟨k + 1, by omega, by go_num, (by first | exact HT2.out rfl | exact HT2.out trivial | exact HT2.out), h1.drewN _, h2.drewN _, below_drewN hbl _⟩
          case measure => simp [intOf]; omega
        · have HD : Hid (decide (l = m) = false) := decide_eq_false (HF.out (fun e => he (by injection e with e1 e2; exact ⟨e1, e2⟩)))
          by_cases hx : x = y
          · subst hx
            have hij : i ≠ j := fun e => he ⟨rfl, e⟩
            have ht : (i == j) = false := by simpa using hij
            go_wp2
            go_quiet (fail)
            go_wp2
            go_ret
            exact ⟨by rw [HD.out]; rfl, below_drewN hbl _⟩
          · have ht : ((x : Int) == (y : Int)) = false := by simp; omega
            go_wp2
            go_quiet (fail)
            go_wp2
            go_ret
            exact ⟨by rw [HD.out]; rfl, below_drewN hbl _⟩
      · obtain rfl : k = l.length := by omega
        have HE : Hid (l = m) := by
          have := HT.out
          rw [List.take_length, ← HN.out, List.take_length] at this
          exact this
        go_wp2
        go_ret
        exact ⟨by rw [decide_eq_true HE.out]; rfl, hbl⟩
  · have hne : decide (l = m) = false := decide_eq_false (fun e => hlen (by rw [e]))
    have HD := Lib.hid hne
    clear hne
    have ht : ((l.length : Int) == (m.length : Int)) = false := by simp; omega
    go_wp2
    go_ret
    exact ⟨by rw [HD.out]; rfl, Below.refl _ _⟩
end Go.Proofs.Ythdflibljngjiaa

/-
  Contracts of the document's own answers, layer 3: Good, Normal.
-/
import Derived.Test.YthdflibljngjiaaRunSame
namespace Go.Proofs.Ythdflibljngjiaa
open Go.RowKit

theorem bytesOf_mem {l : List RunP} (hf : Fits l) : ∀ x ∈ bytesOf l, x < 18446744073709551616 := by
  intro x hx
  unfold bytesOf at hx
  obtain ⟨r, hr, h⟩ := List.mem_flatMap.1 hx
  rw [(List.mem_replicate.1 h).2]
  exact (hf r hr).1
theorem pack_len (b : List Nat) : (pack b).length ≤ b.length := by
  rcases snoc_cases (pack b) with e | ⟨m, r, e⟩
  · rw [e]; simp
  · have := (pack_last_le e).2.2
    rw [e]; simpa using this

set_option maxHeartbeats 1000000 in
theorem refGood_any (A : Option Addr) (c B : Nat) (l : List RunP) (hf : Fits l) (hlen : l.length ≤ maxLen) (w : World) (hB : B ≤ w.heap.size) (h : Row w B A (flatR l)) :
    Calls Try.prog 16 #[.slice A l.length c] w fun e w' => e = .returned (.bool (goodB l)) ∧ Below w.heap.size w w' := by
  have HF := Lib.hid hf
  clear hf
  by_cases hs : sumN l ≤ 4096
  · have HT : Hid (totalOf l = sumN l) := by show _ = _; unfold totalOf; rw [if_pos hs]
    have HG : Hid (goodB l = decide (l = pack (bytesOf l))) := by show _ = _; unfold goodB; rw [decide_eq_true hs, Bool.true_and]; exact decide_eq_decide.2 eq_comm
    have HL : Hid ((bytesOf l).length ≤ 1000000) := by show _ ≤ _; rw [bytesOf_len]; omega
    have HP := Lib.hid (pack_len (bytesOf l))
    go_enter Try.func16, Try.ntmps16
    go_wp2_with (first
      | (go_at_call 18; refine (refTotal_any A c B l HF.out hlen _ hB h).mono ?_; rintro e w1 ⟨rfl, hb1⟩; rw [HT.out]; have z1 := hb1.size)
      | (go_at_call 34; refine (refBytes_any A c B l HF.out hlen hs _ (by omega) (h.below (hb1.mono hB))).mono ?_; rintro e w2 ⟨A2, c2, rfl, hown2, hb2⟩; have z2 := hb2.size)
      | (go_at_call 33; refine (refPack_any A2 c2 w2.heap.size (bytesOf l) (bytesOf_mem HF.out) HL.out _ (Nat.le_refl _) (Row.of_own hown2)).mono ?_; rintro e w3 ⟨A3, c3, rfl, hown3, hb3⟩; have z3 := hb3.size)
      | (go_at_call 14; refine (refSame_any A A3 c c3 B w3.heap.size l (pack (bytesOf l)) hlen (by have := HP.out; have := HL.out; unfold maxLen; omega) _ (by omega) (Nat.le_refl _) (((h.below (hb1.mono hB)).below (hb2.mono (by omega))).below (hb3.mono (by omega))) (Row.of_own hown3)).mono ?_; rintro e w4 ⟨rfl, hb4⟩))
    go_ret
    exact ⟨by rw [HG.out]; rfl, ((hb1.trans (hb2.mono z1)).trans (hb3.mono (by omega))).trans (hb4.mono (by omega))⟩
  · have HT : Hid (totalOf l = 4097) := by show _ = _; unfold totalOf; rw [if_neg hs]
    have HG : Hid (goodB l = false) := by show _ = _; unfold goodB; rw [decide_eq_false hs, Bool.false_and]
    go_enter Try.func16, Try.ntmps16
    go_wp2_with (go_at_call 18; refine (refTotal_any A c B l HF.out hlen _ hB h).mono ?_; rintro e w1 ⟨rfl, hb1⟩; rw [HT.out])
    go_ret
    exact ⟨by rw [HG.out]; rfl, hb1⟩
end Go.Proofs.Ythdflibljngjiaa

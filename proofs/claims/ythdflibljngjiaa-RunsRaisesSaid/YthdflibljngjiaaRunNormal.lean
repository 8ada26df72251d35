/-
  Contracts of the document's own answers, layer 3: Normal.
-/
import Derived.Test.YthdflibljngjiaaRunGood
namespace Go.Proofs.Ythdflibljngjiaa
open Go.RowKit

def normalOf (l : List RunP) : List RunP × Nat :=
  if (∃ r ∈ l, r.2 < 0) then ([], 2) else if sumN l ≤ 4096 then (pack (bytesOf l), 0) else ([], 3)
/-- a list of runs and a number are the answer -/
def Gives (w : World) (p : List RunP × Nat) (e : Ending) (w' : World) : Prop :=
  ∃ A c, e = .returned (.tuple #[.slice A p.1.length c, .int .i64 (p.2 : Nat)]) ∧ w'.ownsRow w.heap.size 51 2 (.slice A p.1.length c) p.1.length (flatR p.1) ∧ Below w.heap.size w w'
theorem gives_nil {w w' : World} {n : Nat} (hb : Below w.heap.size w w') : Gives w ([], n) (.returned (.tuple #[.slice none 0 0, .int .i64 (n : Nat)])) w' :=
  ⟨none, 0, rfl, World.ownsRow_nil _ _ _ _, hb⟩

set_option maxHeartbeats 1000000 in
theorem refNormal_any (A : Option Addr) (c B : Nat) (l : List RunP) (hf : Fits l) (hlen : l.length ≤ maxLen) (w : World) (hB : B ≤ w.heap.size) (h : Row w B A (flatR l)) :
    Calls Try.prog 13 #[.slice A l.length c] w (Gives w (normalOf l)) := by
  unfold maxLen at hlen
  have HF := Lib.hid hf
  clear hf
  have HX : Hid (∀ k, k < l.length → (h : k < l.length) → l[k].2 < 0 → normalOf l = ([], 2)) := fun k _ h hn => by
    unfold normalOf; rw [if_pos ⟨_, List.getElem_mem h, hn⟩]
  go_enter Try.func13, Try.ntmps13
  go_wp2
  go_loopw [4] (fun i wr => ∃ k : Nat, k ≤ l.length ∧ i = .int .i64 k ∧ Hid (∀ j, (hj : j < l.length) → j < k → 0 ≤ l[j].2) ∧ Row wr B A (flatR l) ∧ Below w.heap.size w wr) (fun i _ => l.length - (intOf i).toNat)
  case atStart => exact ⟨0, Nat.zero_le _, rfl, fun j _ hj => absurd hj (by omega), h, Below.refl _ _⟩
  case round =>
    obtain ⟨k, hk, rfl, HA, h, hb⟩ := hrel
    have z := hb.size
    by_cases hlt : k < l.length
    · obtain ⟨ad, rfl, hbl, c0, c1⟩ := run_cells h hlt
      have hfk := HF.out l[k] (List.getElem_mem hlt)
      have HN : Hid (l[k].2 < 0 → normalOf l = ([], 2)) := fun hn => HX.out k hlt hlt hn
      have HA2 : Hid (0 ≤ l[k].2 → ∀ j, (hj : j < l.length) → j < k + 1 → 0 ≤ l[j].2) := fun h0 j hj hj1 => by
        rcases Nat.lt_or_ge j k with h1 | h1
        · exact HA.out j hj h1
        · obtain rfl : j = k := by omega
          exact h0
      generalize l[k] = r at *
      obtain ⟨x, n⟩ := r
      dsimp only at *
      by_cases hn : n < 0
      · go_wp2
        go_ret2
        rw [HN.out hn]
        exact gives_nil hb
      · go_wp2
        go_roundw
        case rel => exact ⟨k + 1, by omega, by go_num, HA2.out (by omega), h, hb⟩
        case measure => simp [intOf]; omega
    · obtain rfl : k = l.length := by omega
      have HNE : Hid (¬ ∃ r ∈ l, r.2 < 0) := fun ⟨r, hr, hn⟩ => by
        obtain ⟨j, hj, rfl⟩ := List.getElem_of_mem hr
        have := HA.out j hj hj
        omega
      by_cases hs : sumN l ≤ 4096
      · have HT : Hid (totalOf l = sumN l) := by show _ = _; unfold totalOf; rw [if_pos hs]
        have HR : Hid (normalOf l = (pack (bytesOf l), 0)) := by show _ = _; unfold normalOf; rw [if_neg HNE.out, if_pos hs]
        have HL : Hid ((bytesOf l).length ≤ 1000000) := by show _ ≤ _; rw [bytesOf_len]; omega
        go_wp2_with (first
          | (go_at_call 18; refine (refTotal_any A c B l HF.out (by unfold maxLen; omega) _ (by omega) h).mono ?_; rintro e w1 ⟨rfl, hb1⟩; rw [HT.out]; have z1 := hb1.size)
          | (go_at_call 34; refine (refBytes_any A c B l HF.out (by unfold maxLen; omega) hs _ (by omega) (h.below (hb1.mono (by omega)))).mono ?_; rintro e w2 ⟨A2, c2, rfl, hown2, hb2⟩; have z2 := hb2.size)
          | (go_at_call 33; refine (refPack_any A2 c2 w2.heap.size (bytesOf l) (bytesOf_mem HF.out) HL.out _ (Nat.le_refl _) (Row.of_own hown2)).mono ?_; rintro e w3 ⟨A3, c3, rfl, hown3, hb3⟩; have z3 := hb3.size))
        go_ret2
        rw [HR.out]
        exact ⟨A3, c3, rfl, own_base hown3 (by omega), (hb.trans (hb1.mono z)).trans ((hb2.mono (by omega)).trans (hb3.mono (by omega)))⟩
      · have HT : Hid (totalOf l = 4097) := by show _ = _; unfold totalOf; rw [if_neg hs]
        have HR : Hid (normalOf l = ([], 3)) := by show _ = _; unfold normalOf; rw [if_neg HNE.out, if_neg hs]
        go_wp2_with (go_at_call 18; refine (refTotal_any A c B l HF.out (by unfold maxLen; omega) _ (by omega) h).mono ?_; rintro e w1 ⟨rfl, hb1⟩; rw [HT.out])
        go_ret2
        rw [HR.out]
        exact gives_nil (hb.trans (hb1.mono z))
end Go.Proofs.Ythdflibljngjiaa

/-
  Have two texts a byte in common: layer 15.
-/
import Derived.Test.YtgmeamefbfgbgaaDoorSuStan
import Derived.BigQuiet
namespace Go.Proofs.YtgmeamefbfgbgaaDoor
open Go.RowKit
set_option maxRecDepth 100000

def comS (p q : List UInt8) : Bool := p.any fun x => q.any fun z => x == z
theorem comS_iff (p q : List UInt8) : comS p q = true ↔ ∃ x ∈ p, x ∈ q := by
  unfold comS
  simp
theorem comS_not {p q : List UInt8} (h : comS p q = false) : ∀ x ∈ p, x ∉ q := by
  intro x hx hq
  have := (comS_iff p q).2 ⟨x, hx, hq⟩
  rw [h] at this
  cases this
theorem eqb_yes {b d : UInt8} (h : b = d) : ((b.toNat : Int) == (d.toNat : Int)) = true := by subst h; simp
theorem eqb_no {b d : UInt8} (h : ¬ b = d) : ((b.toNat : Int) == (d.toNat : Int)) = false := by
  have : b.toNat ≠ d.toNat := fun e => h (UInt8.toNat_inj.1 e)
  rw [beq_eq_false_iff_ne]; omega
set_option maxHeartbeats 4000000 in
theorem lawCommon_any (p q : List UInt8) (hp : p.length ≤ 5000) (hq : q.length ≤ 5001) (w : World) :
    Calls Tryd.prog 16 #[.string ⟨p.toArray⟩, .string ⟨q.toArray⟩] w fun e w' => e = .returned (.bool (comS p q)) ∧ Below w.heap.size w w' := by
  go_enter Tryd.func16, Tryd.ntmps16
  go_wp2_with fail
  go_loopw [4, 5, 6, 9, 14] (fun _ _ _ i _ wr => ∃ k : Nat, k ≤ p.length ∧ i = .int .i64 k ∧ Hid (∀ x ∈ p.take k, x ∉ q) ∧ Below w.heap.size w wr) (fun _ _ _ i _ _ => p.length - (intOf i).toNat)
  case atStart => exact ⟨0, Nat.zero_le _, rfl, fun x hx => by simp at hx, Below.refl _ _⟩
  case round =>
    obtain ⟨k, hk, rfl, hn, hb⟩ := hrel
    by_cases hlt : k < p.length
    · have hg1 := byte_atS p k hlt
      have HT : Hid (p.take (k + 1) = p.take k ++ [p[k]]) := List.take_succ_eq_append_getElem hlt
      have hm : p[k] ∈ p := List.getElem_mem hlt
      have HMM := Lib.hid hm
      clear hm
      generalize p[k] = d at *
      go_wp2_with fail
      go_loopw [4, 6, 14] (fun _ _ i wr => ∃ j : Nat, j ≤ q.length ∧ i = .int .i64 j ∧ Hid (d ∉ q.take j) ∧ Below w.heap.size w wr) (fun _ _ i _ => q.length - (intOf i).toNat)
      case atStart => exact ⟨0, Nat.zero_le _, rfl, fun hx => by simp at hx, hb⟩
      case round =>
        clear hb
        obtain ⟨j, hj, rfl, hd, hb⟩ := hrel
        by_cases hlt2 : j < q.length
        · have hg2 := byte_atS q j hlt2
          have HQ : Hid (q.take (j + 1) = q.take j ++ [q[j]]) := List.take_succ_eq_append_getElem hlt2
          have hm : q[j] ∈ q := List.getElem_mem hlt2
          have HMQ := Lib.hid hm
          clear hm
          generalize q[j] = v at *
          have q1 : (k : Int) < (p.length : Int) := by omega
          have q2 : (j : Int) < (q.length : Int) := by omega
          by_cases he : d = v
          · have h1 := eqb_yes he
            have HF : Hid (comS p q = true) := (comS_iff p q).2 ⟨d, HMM.out, by rw [he]; exact HMQ.out⟩
            clear he
            go_upto_region 7 with fail
            go_quiet (fail)
            go_wp2_with fail
            go_ret
            exact ⟨by rw [HF.out]; rfl, below_drewN hb _⟩
          · have h1 := eqb_no he
            have HN : Hid (d ∉ q.take (j + 1)) := by
              show d ∉ _
              rw [HQ.out, List.mem_append, List.mem_singleton]
              exact fun h => h.elim hd.out he
            clear he
            go_upto_region 7 with fail
            go_quiet (fail)
            go_wp2_with fail
            go_roundw
            case rel => exact ⟨j + 1, by omega, by go_num, HN, below_drewN hb _⟩
            case measure => simp [intOf]; omega
        · obtain rfl : j = q.length := by omega
          have HN : Hid (∀ x ∈ p.take (k + 1), x ∉ q) := by
            intro x hx
            rw [HT.out] at hx
            rcases List.mem_append.1 hx with hx | hx
            · exact hn.out x hx
            · rw [List.mem_singleton] at hx
              rw [hx]
              have := hd.out
              rwa [List.take_length] at this
          go_wp2_with fail
          go_roundw
          case rel => exact ⟨k + 1, by omega, by go_num, HN, hb⟩
          case measure => simp [intOf]; omega
    · obtain rfl : k = p.length := by omega
      have HF : Hid (comS p q = false) := by
        show _ = _
        rw [Bool.eq_false_iff]
        intro hc
        obtain ⟨x, hx, hxq⟩ := (comS_iff p q).1 hc
        have := hn.out x
        rw [List.take_length] at this
        exact this hx hxq
      go_wp2_with fail
      go_ret
      exact ⟨by rw [HF.out]; rfl, hb⟩
end Go.Proofs.YtgmeamefbfgbgaaDoor

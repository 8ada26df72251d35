/-
  The landed Normal: layer 3.
-/
import Derived.Test.YthdflibljngjiaaRunEach
namespace Go.Proofs.Ythdflibljngjiaa
open Go.RowKit

theorem ent_normal (args : Array Value) (w : World) : Sem.run Try.prog (callFunc 32 args) w = .ok (.enter 32 args) w := by rfl

set_option maxHeartbeats 1000000 in
theorem normalEach_any (g gl : Nat) (A : Option Addr) (c B : Nat) (l : List RunP) (hf : Fits l) (hlen : l.length ≤ maxLen) (hs : sumN l ≤ 4096) (hn : ∀ r ∈ l, 0 ≤ r.2)
    (w : World) (hI : Gath w (g + 1) g []) (hB : B ≤ g) (h : Row w B A (flatR l)) (bl : Blk w gl 22 #[.slice A l.length c]) :
    Calls Try.prog 32 #[.func (.func 46) #[] #[.pointer (some ⟨g, 0, none⟩)], .pointer (some ⟨gl, 0, none⟩)] w fun e w' =>
      e = .returned (.tuple #[]) ∧ Gath w' (g + 1) g (bytesOf l) ∧ Below g w w' := by
  unfold maxLen at hlen
  have HF := Lib.hid hf
  have HN := Lib.hid hn
  clear hf hn
  have kl := bl.cell 0
  simp at kl
  go_enter Try.func32, Try.ntmps32
  go_wp2
  go_loopw [7] (fun i wr => ∃ k : Nat, k ≤ l.length ∧ i = .int .i64 k ∧ Gath wr (g + 1) g (bytesOf (l.take k)) ∧ Below g w wr) (fun i _ => l.length - (intOf i).toNat)
  case atStart => exact ⟨0, Nat.zero_le _, rfl, hI, Below.refl _ _⟩
  case round =>
    clear hI
    obtain ⟨k, hk, rfl, hI, hb⟩ := hrel
    have z : g + 1 ≤ wr.heap.size := hI.2.1
    by_cases hlt : k < l.length
    · obtain ⟨ad, rfl, hbl, c0, c1⟩ := run_cells (h.below (hb.mono hB)) hlt
      have hfk := HF.out l[k] (List.getElem_mem hlt)
      have hnk := HN.out l[k] (List.getElem_mem hlt)
      have HS := Lib.hid (bytesOf_succ l k hlt)
      have hle := sumN_take_le l (k + 1)
      have hs1 := sumN_succ l k hlt
      have hlb : (bytesOf (l.take k)).length ≤ 4096 := by rw [bytesOf_len]; have := sumN_take_le l k; omega
      generalize l[k] = r at *
      obtain ⟨x, n⟩ := r
      dsimp only at *
      have hx := hfk.1
      have hn2 : n ≤ 4096 := by omega
      clear hs1
      have HI := hI.alloc (.cells #[.int .u64 (x : Nat), .int .i64 n] 51)
      go_wp2_with (go_at_call 46; refine (runAdd_any (g + 1) g _ x n hx (by omega) (by omega) _ HI).mono ?_; rintro e w2 ⟨rfl, hI2, hb2⟩)
      go_roundw
      case rel => exact ⟨k + 1, by omega, by go_num, by rw [HS.out]; exact hI2, (hb.alloc (by omega) _).trans hb2.1⟩
      case measure => simp [intOf]; omega
    · obtain rfl : k = l.length := by omega
      rw [List.take_length] at hI
      go_wp2
      go_end0
      exact ⟨rfl, hI, hb⟩

set_option maxHeartbeats 1000000 in
theorem runNormal_any (A : Option Addr) (c B : Nat) (l : List RunP) (hf : Fits l) (hlen : l.length ≤ maxLen) (w : World) (hB : B ≤ w.heap.size) (h : Row w B A (flatR l)) :
    Calls Try.prog 12 #[.slice A l.length c] w (Gives w (normalOf l)) := by
  have hlen0 := hlen
  unfold maxLen at hlen
  have HF := Lib.hid hf
  clear hf
  have HX : Hid (∀ k, k < l.length → (h : k < l.length) → l[k].2 < 0 → normalOf l = ([], 2)) := fun k _ h hn => by
    unfold normalOf; rw [if_pos ⟨_, List.getElem_mem h, hn⟩]
  have b1 : Below w.heap.size w (w.alloc (.cells #[.slice A l.length c] 22)) := (Below.refl _ w).alloc (Nat.le_refl _) _
  have q0 := Blk.new w 22 #[.slice A l.length c]
  have z1 : (w.alloc (.cells #[.slice A l.length c] 22)).heap.size = w.heap.size + 1 := by simp
  have hrow := h.below (b1.mono hB)
  have Q := Lib.hid (And.intro b1 (And.intro q0 (And.intro z1 hrow)))
  clear b1 q0 z1 hrow
  go_enter Try.func12, Try.ntmps12
  go_wp2
  go_loopw [8] (fun i wr => ∃ k : Nat, k ≤ l.length ∧ i = .int .i64 k ∧ Hid (∀ j, (hj : j < l.length) → j < k → 0 ≤ l[j].2) ∧ Below (w.heap.size + 1) (w.alloc (.cells #[.slice A l.length c] 22)) wr) (fun i _ => l.length - (intOf i).toNat)
  case atStart => exact ⟨0, Nat.zero_le _, rfl, fun j _ hj => absurd hj (by omega), Below.refl _ _⟩
  case round =>
    obtain ⟨k, hk, rfl, HA, hb⟩ := hrel
    have z : w.heap.size + 1 ≤ wr.heap.size := by have := hb.size; rw [Q.out.2.2.1] at this; exact this
    have hr := Q.out.2.2.2.below (hb.mono (by omega))
    have p0 := Q.out.2.1.below hb (by omega)
    have kl := p0.cell 0
    simp at kl
    by_cases hlt : k < l.length
    · obtain ⟨ad, rfl, hbl, c0, c1⟩ := run_cells hr hlt
      have hfk := HF.out l[k] (List.getElem_mem hlt)
      have HN : Hid (l[k].2 < 0 → normalOf l = ([], 2)) := fun hn => HX.out k hlt hlt hn
      have HA2 : Hid (0 ≤ l[k].2 → ∀ j, (hj : j < l.length) → j < k + 1 → 0 ≤ l[j].2) := fun h0 j hj hj1 => by
        rcases Nat.lt_or_ge j k with h1 | h1
        · exact HA.out j hj h1
        · obtain rfl : j = k := by omega
          exact h0
      generalize l[k] = r at *
      obtain ⟨x, n⟩ := r
      dsimp only at *
      by_cases hn : n < 0
      · go_wp2
        go_ret2
        rw [HN.out hn]
        exact gives_nil (Q.out.1.trans ((hb.alloc z _).mono (by omega)))
      · go_wp2
        go_roundw
        case rel => exact ⟨k + 1, by omega, by go_num, HA2.out (by omega), hb.alloc z _⟩
        case measure => simp [intOf]; omega
    · obtain rfl : k = l.length := by omega
      have HNE : Hid (∀ r ∈ l, 0 ≤ r.2) := fun r hr => by
        obtain ⟨j, hj, rfl⟩ := List.getElem_of_mem hr
        exact HA.out j hj hj
      have HNO : Hid (¬ ∃ r ∈ l, r.2 < 0) := fun ⟨r, hr, hn⟩ => by have := HNE.out r hr; omega
      by_cases hs : sumN l ≤ 4096
      · have HT : Hid (totalOf l = sumN l) := by show _ = _; unfold totalOf; rw [if_pos hs]
        have HR : Hid (normalOf l = (pack (bytesOf l), 0)) := by show _ = _; unfold normalOf; rw [if_neg HNO.out, if_pos hs]
        go_wp2_with (go_at_call 17; refine (runTotal_any A c B l HF.out hlen0 wr (by omega) hr).mono ?_; rintro e w1 ⟨rfl, hb1⟩; rw [HT.out]; have z1 := hb1.size)
        have r1 := hr.below (hb1.mono (by omega))
        have p1 := p0.below hb1 (by omega)
        have hbb := Q.out.1.trans ((hb.mono (by omega)).trans (hb1.mono (by omega)))
        refine (runMerged_any 32 ent_normal _ (bytesOf l) w1 fun w2 hG hb2 => ?_).mono ?_
        · exact normalEach_any w1.heap.size w.heap.size A c B l HF.out hlen0 hs HNE.out w2 hG (by omega) (r1.below (hb2.mono (by omega))) (p1.below hb2 (by omega))
        · rintro e w2 ⟨A2, c2, rfl, hown2, hb2⟩
          go_wp2
          go_ret2
          rw [HR.out]
          exact ⟨A2, c2, rfl, own_base hown2 (by omega), hbb.trans (hb2.mono (by omega))⟩
      · have HT : Hid (totalOf l = 4097) := by show _ = _; unfold totalOf; rw [if_neg hs]
        have HR : Hid (normalOf l = ([], 3)) := by show _ = _; unfold normalOf; rw [if_neg HNO.out, if_neg hs]
        go_wp2_with (go_at_call 17; refine (runTotal_any A c B l HF.out hlen0 wr (by omega) hr).mono ?_; rintro e w1 ⟨rfl, hb1⟩; rw [HT.out])
        go_ret2
        rw [HR.out]
        exact gives_nil (Q.out.1.trans ((hb.mono (by omega)).trans (hb1.mono (by omega))))
end Go.Proofs.Ythdflibljngjiaa

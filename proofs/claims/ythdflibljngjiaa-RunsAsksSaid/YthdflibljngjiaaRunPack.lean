/-
  Contracts of the document's own answers, layer 3: Pack.
-/
import Derived.Test.YthdflibljngjiaaRunBytes
import Derived.BigQuiet
import Derived.Deep.QuietTactic
namespace Go.Proofs.Ythdflibljngjiaa
open Go.RowKit

/-- one cell of a row that is owned is written -/
theorem own_set {w : World} {base e size n c g : Nat} {xs : List Value} (h : w.ownsRow base e size (.slice (some ⟨g, 0, none⟩) n c) n xs) (j : Nat) (u : Value) :
    (w.setCell ⟨g, j, none⟩ u).ownsRow base e size (.slice (some ⟨g, 0, none⟩) n c) n (xs.set j u) := by
  obtain ⟨hl, h⟩ := h
  rcases h with ⟨hv, _⟩ | ⟨g', cap, cur, hv, hb, hg, hn, hm, hs, ht⟩
  · simp at hv
  · simp at hv
    obtain ⟨rfl, rfl⟩ := hv
    refine ⟨by simp [hl], .inr ⟨g, c, cur.setIfInBounds j u, rfl, hb, heap_setCell_same w g j cur e u hg, hn, hm, by simp [hs], ?_⟩⟩
    rw [← ht]
    simp [List.take_set]
theorem base_add (g k : Nat) : (⟨g, 0, none⟩ : Addr).add k = ⟨g, k, none⟩ := by
  unfold Addr.add
  by_cases h : k = 0
  · subst h; rfl
  · rw [if_neg h]; simp
theorem base_field (g k : Nat) : (⟨((⟨g, 0, none⟩ : Addr).add (k * 2)).block, ((⟨g, 0, none⟩ : Addr).add (k * 2)).off + 1, none⟩ : Addr) = ⟨g, k * 2 + 1, none⟩ := by rw [base_add]
theorem own_frozen {w : World} {base e size n c g : Nat} {xs : List Value} (h : w.ownsRow base e size (.slice (some ⟨g, 0, none⟩) n c) n xs) (j : Nat) : w.frozen? ⟨g, j, none⟩ = false := by
  rcases h.2 with ⟨hv, _⟩ | ⟨g', cap, cur, hv, hb, hg, _⟩
  · simp at hv
  · simp at hv
    obtain ⟨rfl, rfl⟩ := hv
    exact frozen_of_row w g j cur e hg
theorem own_at {w : World} {base e size n : Nat} {v : Value} {xs : List Value} (h : w.ownsRow base e size v n xs) (hn : 0 < n) : ∃ g c, v = .slice (some ⟨g, 0, none⟩) n c ∧ base ≤ g ∧ g < w.heap.size := by
  rcases h.2 with ⟨_, h0⟩ | ⟨g, cap, cur, hv, hb, hg, _⟩
  · omega
  · refine ⟨g, cap, hv, hb, ?_⟩
    rcases Nat.lt_or_ge g w.heap.size with hlt | hge
    · exact hlt
    · rw [Array.getElem?_eq_none hge] at hg; cases hg
theorem flatR_set (m : List RunP) (r : RunP) (n : Int) : (flatR (m ++ [r])).set (m.length * 2 + 1) (.int .i64 n) = flatR (m ++ [(r.1, n)]) := by
  rw [flatR_snoc, flatR_snoc, List.set_append, if_neg (by rw [flatR_len]; omega), flatR_len, show m.length * 2 + 1 - m.length * 2 = 1 by omega]
  rfl
theorem pack_last_le {b : List Nat} {m : List RunP} {r : RunP} (h : pack b = m ++ [r]) : 1 ≤ r.2 ∧ r.2 ≤ b.length ∧ m.length + 1 ≤ b.length := by
  have hn := neat_pack b
  have hs := sumN_pack b
  rw [h] at hn hs
  have h1 := hn.last
  rw [sumN_snoc] at hs
  have key : ∀ (b : List Nat), (pack b).length ≤ b.length := snoc_ind (P := fun b => (pack b).length ≤ b.length) (by simp [pack]) (fun b x ih => by
    rw [pack_snoc]
    rcases snoc_cases (pack b) with e | ⟨m, r, e⟩
    · rw [e, packStep_nil]; simp
    · rw [e, packStep_snoc]; rw [e] at ih
      split <;> simp at * <;> omega)
  have := key b
  rw [h] at this
  simp at this
  omega

set_option maxHeartbeats 2000000 in
theorem refPack_any (A : Option Addr) (c B : Nat) (b : List Nat) (hz : ∀ x ∈ b, x < 18446744073709551616) (hlen : b.length ≤ 1000000) (w : World) (hB : B ≤ w.heap.size) (h : Row w B A (b.map u64v)) :
    Calls Try.prog 33 #[.slice A b.length c] w fun e w' => ∃ A' c', e = .returned (.slice A' (pack b).length c') ∧
      w'.ownsRow w.heap.size 51 2 (.slice A' (pack b).length c') (pack b).length (flatR (pack b)) ∧ Below w.heap.size w w' := by
  have HZ := Lib.hid hz
  clear hz
  go_enter Try.func33, Try.ntmps33
  go_wp2
  go_loopw [3, 4] (fun v i wr => ∃ k : Nat, k ≤ b.length ∧ i = .int .i64 k ∧ wr.ownsRow w.heap.size 51 2 v (pack (b.take k)).length (flatR (pack (b.take k))) ∧ Below w.heap.size w wr) (fun _ i _ => b.length - (intOf i).toNat)
  case atStart => exact ⟨0, Nat.zero_le _, rfl, World.ownsRow_nil _ _ _ _, Below.refl _ _⟩
  case round =>
    obtain ⟨k, hk, rfl, hown, hb⟩ := hrel
    have z := hb.size
    by_cases hlt : k < b.length
    · obtain ⟨ad, rfl, hbl, hcell⟩ := (h.below (hb.mono hB)).map_at hlt
      have hxk := HZ.out b[k] (List.getElem_mem hlt)
      have HS : Hid (pack (b.take (k + 1)) = packStep (pack (b.take k)) b[k]) := by
        show pack _ = _
        rw [List.take_succ_eq_append_getElem hlt, pack_snoc]
      unfold u64v at hcell
      have hlk : (b.take k).length = k := by rw [List.length_take]; omega
      generalize hx : b[k] = x at *
      have HX := Lib.hid hx
      clear hx
      rcases snoc_cases (pack (b.take k)) with e | ⟨m, r, e⟩
      · rw [e] at hown HS
        rw [packStep_nil] at HS
        have HE := Lib.hid e
        clear e
        obtain ⟨A1, c1, rfl⟩ := own_form hown
        have hd : ∀ n, (wr.drewN n).ownsRow w.heap.size 51 2 _ _ _ := fun n => own_keep hown (below_drewN (Below.refl _ wr) n) (Nat.le_refl _)
        go_wp2
        go_quiet (fail)
        go_wp2_with (at_builtin; refine wpList_pushN rfl _ _ _ rfl w.heap.size 51 _ 2 16 elt_run 51 _ _ _ rfl (hd _) [.int .u64 (x : Nat), .int .i64 1] _ rfl rfl rfl (by simp [Value.oneCell']) (by simp [maxLen]) (by simp) z ?_; intro v3 w3 hown3 hb3 _)
        go_roundw
        case rel => exact ⟨k + 1, by omega, by go_num, by rw [HS.out]; exact hown3, (below_drewN hb _).trans hb3⟩
        case measure => simp [intOf]; omega
      · have hr := pack_last_le e
        rw [hlk] at hr
        rw [e] at hown HS
        rw [packStep_snoc] at HS
        have HE := Lib.hid e
        clear e
        have hlm : (m ++ [r]).length = m.length + 1 := by simp
        rw [hlm] at hown
        clear hlm
        obtain ⟨g, c1, rfl, hg1, hg2⟩ := own_at hown (by omega)
        have hfz := own_frozen hown (m.length * 2 + 1)
        rw [← base_field] at hfz
        obtain ⟨ad', e', _, c0, c1'⟩ := run_cells (Row.of_own hown) (k := m.length) (by simp)
        cases e'
        have STEP : Hid (∀ n, ((wr.drewN n).setCell ⟨((⟨g, 0, none⟩ : Addr).add (m.length * 2)).block, ((⟨g, 0, none⟩ : Addr).add (m.length * 2)).off + 1, none⟩ (.int .i64 (r.2 + 1))).ownsRow w.heap.size 51 2 (.slice (some ⟨g, 0, none⟩) (m.length + 1) c1) (m.length + 1) (flatR (m ++ [(r.1, r.2 + 1)]))) := fun n => by
          rw [base_add, ← flatR_set]
          have := own_keep hown (below_drewN (Below.refl _ wr) n) (Nat.le_refl _)
          exact own_set this _ _
        have HD : Hid (∀ n, (wr.drewN n).ownsRow w.heap.size 51 2 (.slice (some ⟨g, 0, none⟩) (m.length + 1) c1) (m.length + 1) (flatR (m ++ [r]))) := fun n => by
          have := own_keep hown (below_drewN (Below.refl _ wr) n) (Nat.le_refl _)
          exact this
        have HBB : Hid (w.heap.size ≤ ((⟨g, 0, none⟩ : Addr).add (m.length * 2)).block) := by show _ ≤ _; rw [base_add]; exact hg1
        generalize hg : (⟨g, 0, none⟩ : Addr) = ad1 at *
        have HG := Lib.hid hg
        clear hg
        rw [show (m ++ [r])[m.length]'(by simp) = r by simp] at c0 c1'
        by_cases hrx : r.1 = x
        · rw [if_pos hrx] at HS
          subst hrx
          go_wp2
          go_quiet (fail)
          go_wp2
          go_roundw
          case rel => exact ⟨k + 1, by omega, by go_num, by rw [HS.out, List.length_append]; exact STEP.out _, Below.setCell (p := ⟨(ad1.add (m.length * 2)).block, (ad1.add (m.length * 2)).off + 1, none⟩) (below_drewN hb _) HBB.out _⟩
          case measure => simp [intOf]; omega
        · rw [if_neg hrx] at HS
          have ht : ((r.1 : Int) == (x : Int)) = false := by simp; omega
          go_wp2
          go_quiet (fail)
          go_wp2_with (at_builtin; go_loud (refine wpList_pushN rfl _ _ _ rfl w.heap.size 51 _ 2 16 elt_run 51 _ (m.length + 1) (flatR (m ++ [r])) rfl (HD.out _) [.int .u64 (x : Nat), .int .i64 1] _ rfl rfl rfl (by simp [Value.oneCell']) (by unfold maxLen; omega) (by omega) z ?_); intro v3 w3 hown3 hb3 _)
          go_roundw
          case rel => exact ⟨k + 1, by omega, by go_num, by rw [HS.out, List.length_append, List.length_append, flatR_snoc]; exact hown3, (below_drewN hb _).trans hb3⟩
          case measure => simp [intOf]; omega
    · obtain rfl : k = b.length := by omega
      rw [List.take_length] at hown
      obtain ⟨A1, c1, rfl⟩ := own_form hown
      go_wp2
      go_ret
      exact ⟨A1, c1, rfl, hown, hb⟩
end Go.Proofs.Ythdflibljngjiaa

/-
  Contracts of the document's own answers, layer 15: stands.
-/
import Derived.Test.YtgmeamefbfgbgaaDoorSuMath
import Derived.Test.YtgmeamefbfgbgaaDoorM07e
import Derived.Test.YtgmeamefbfgbgaaDoorM01
import Derived.Deep.RegionHeld3
import Derived.BigQuiet
namespace Go.Proofs.YtgmeamefbfgbgaaDoor
open Go.RowKit
set_option maxRecDepth 100000

theorem wrapS_near {x : Int} (h1 : -9223372036854775808 ≤ x) (h2 : x ≤ 9223372036854775807) : IntKind.i64.wrap x = x := by rw [IntKind.wrap_i64]; omega
theorem byte_atS (S : List UInt8) (k : Nat) (h : k < S.length) : ({ data := S.toArray } : ByteArray)[k]'(by simpa [ByteArray.size] using h) = S[k] := rfl
theorem same_yes {b d : UInt8} (h : b = d) : ((b.toNat : Int) != (d.toNat : Int)) = false := by subst h; simp
theorem same_no {b d : UInt8} (h : ¬ b = d) : ((b.toNat : Int) != (d.toNat : Int)) = true := by
  have : b.toNat ≠ d.toNat := fun e => h (UInt8.toNat_inj.1 e)
  rw [bne_iff_ne]; omega
set_option maxHeartbeats 2000000 in
theorem refSuStands_any (A A2 : Option Addr) (c c2 B2 : Nat) (S : List UInt8) (l : List RunP) (L : List Nat) (y : Nat) (hy : y < 18446744073709551616) (pat : List UInt8) (hp : pat.length ≤ 5000) (a z : Nat) (hz : z ≤ S.length) (ha : a ≤ z) (hS : S.length ≤ 4096) (hL : L.length = S.length) (hm : ∀ x ∈ L, x < 18446744073709551616) (w : World) (hB : B2 ≤ w.heap.size) (h : Row w B2 A2 (L.map u64v)) :
    Calls Tryd.prog 67 #[.agg #[.string ⟨S.toArray⟩, .slice A l.length c], .slice A2 L.length c2, .int .u64 (y : Nat), .string ⟨pat.toArray⟩, .int .i64 (a : Nat), .int .i64 (z : Nat)] w fun e w' => e = .returned (.bool (standsS S L y pat a z)) ∧ Below w.heap.size w w' := by
  have HM := Lib.hid hm
  have HLL := Lib.hid hL
  clear hm hL
  have B0 : Below w.heap.size w (w.alloc (.cells #[.string ⟨S.toArray⟩, .slice A l.length c] 24)) := (Below.refl _ _).alloc (Nat.le_refl _) _
  have Kb : Grow (w.alloc (.cells #[.string ⟨S.toArray⟩, .slice A l.length c] 24)) (fun w' => Below w.heap.size w w') := fun w' hb => B0.trans (hb.mono B0.size)
  have Kr : Grow (w.alloc (.cells #[.string ⟨S.toArray⟩, .slice A l.length c] 24)) (fun w' => Row w' B2 A2 (L.map u64v)) := fun w' hb => (h.below (B0.mono hB)).below (hb.mono (by have := B0.size; omega))
  have K := Lib.hid ((grow_new w 24 #[.string ⟨S.toArray⟩, .slice A l.length c]).and (Kr.and Kb))
  clear B0 Kb Kr h
  by_cases hlen : a + pat.length ≤ z
  · go_enter Tryd.func67, Tryd.ntmps67
    go_upto_region 1 with fail
    change Code.wp _ _ _ _ (w.alloc (.cells #[.string ⟨S.toArray⟩, .slice A l.length c] 24))
    generalize w.alloc (.cells #[.string ⟨S.toArray⟩, .slice A l.length c] 24) = wa at *
    have g1 : decide ((pat.length : Int) > (z : Int) - (a : Int)) = false := decide_eq_false (by omega)
    go_wp2_with fail
    go_loopw [12, 13] (fun _ i wr => ∃ k : Nat, k ≤ pat.length ∧ i = .int .i64 k ∧ (∀ j, j < k → S[a + j]? = pat[j]? ∧ subB (L.getD (a + j) 0) y = true) ∧ Hid (Grow wr (fun w' => Blk w' w.heap.size 24 #[.string ⟨S.toArray⟩, .slice A l.length c] ∧ Row w' B2 A2 (L.map u64v) ∧ Below w.heap.size w w'))) (fun _ i _ => pat.length - (intOf i).toNat)
    case atStart => exact ⟨0, Nat.zero_le _, rfl, fun j hj => absurd hj (Nat.not_lt_zero _), K⟩
    case round =>
      clear K
      obtain ⟨k, hk, rfl, hst, K⟩ := hrel
      have HST := Lib.hid hst
      clear hst
      by_cases hlt : k < pat.length
      · have hak : a + k < S.length := by omega
        have hakL : a + k < L.length := by rw [HLL.out]; exact hak
        have q0 : (0 : Int) ≤ (a : Int) + (k : Int) := by omega
        have q1 : (a : Int) + (k : Int) < (S.length : Int) := by omega
        have q2 : ((a + k : Nat) : Int) < (S.length : Int) := by omega
        have q3 : (k : Int) < (pat.length : Int) := by omega
        have q4 : IntKind.i64.wrap ((a : Int) + (k : Int)) = (a : Int) + (k : Int) := wrapS_near (by omega) (by omega)
        have q5 : ((a : Int) + (k : Int)).toNat = a + k := by omega
        have q6 : (a : Int) + (k : Int) < (L.length : Int) := by omega
        have hb1 := byte_atS S (a + k) hak
        have hb2 := byte_atS pat k hlt
        have e1 : S[a + k]? = some S[a + k] := List.getElem?_eq_getElem hak
        have e2 : pat[k]? = some pat[k] := List.getElem?_eq_getElem hlt
        have e3 : L.getD (a + k) 0 = L[a + k] := by simp [List.getD, List.getElem?_eq_getElem hakL]
        have hx := HM.out _ (List.getElem_mem hakL)
        obtain ⟨ad, rfl, hbl, hcell⟩ := K.out.now.2.1.map_at hakL
        have KC : Hid (∀ w', Below wr.heap.size wr w' → w'.cell? (ad.add (a + k)) = some (.int .u64 ((L[a + k] : Nat) : Int))) := fun w' hb => by
          obtain ⟨ad', e', _, hc⟩ := (K.out w' hb).2.1.map_at hakL
          cases e'
          exact hc
        have E1 := Lib.hid e1
        have E2 := Lib.hid e2
        have E3 := Lib.hid e3
        clear e1 e2 e3 hcell
        by_cases heq : S[a + k] = pat[k]
        · have hne := same_yes heq
          have HEQ := Lib.hid heq
          clear heq
          generalize S[a + k] = b1 at *
          generalize pat[k] = b2 at *
          generalize L[a + k] = x at *
          by_cases hs : subB x y = true
          · have HN : Hid (∀ j, j < k + 1 → S[a + j]? = pat[j]? ∧ subB (L.getD (a + j) 0) y = true) := fun j hj => by
              rcases Nat.lt_or_ge j k with h | h
              · exact HST.out j h
              · obtain rfl : j = k := by omega
                exact ⟨by rw [E1.out, E2.out, HEQ.out], by rw [E3.out]; exact hs⟩
            have y0 := (txt_cells K.out.now.1).1
            go_upto_region 6 with fail
            go_region_held3 (fun w' => (w'.cell? ⟨w.heap.size, 0, none⟩ = some (.string ⟨S.toArray⟩) ∧ w'.cell? (ad.add (a + k)) = some (.int .u64 (x : Nat))) ∧ Below wr.heap.size wr w')
              (first
                | exact ⟨⟨(txt_cells (K.out _ bx).1).1, KC.out _ bx⟩, bx⟩
                | exact ⟨⟨(txt_cells (K.out _ (below_drewN (Below.refl _ _) 1)).1).1, KC.out _ (below_drewN (Below.refl _ _) 1)⟩, below_drewN (Below.refl _ _) 1⟩)
              (first
                | (go_at_call 43; refine (refBelow_any x y hx hy _).mono ?_; rintro e w3 ⟨rfl, bb⟩; rw [hs]; have bx : Below wr.heap.size wr w3 := (below_drewN (Below.refl _ _) 1).trans (bb.mono (Nat.le_refl _))))
            all_goals (
              go_wp2_with fail
              go_roundw
              case rel => exact ⟨k + 1, by omega, by go_num, HN.out, Lib.hid (K.out.step bx)⟩
              case measure => simp [intOf]; omega)
          · have hs' : subB x y = false := by simpa using hs
            have HF : Hid (standsS S L y pat a z = false) := by
              show _ = _
              rw [Bool.eq_false_iff]
              intro hc
              have := (((standsS_iff _ _ _ _ _ _).1 hc).2 k hlt).2
              rw [E3.out, hs'] at this
              cases this
            have y0 := (txt_cells K.out.now.1).1
            go_upto_region 6 with fail
            go_region_held3 (fun w' => (w'.cell? ⟨w.heap.size, 0, none⟩ = some (.string ⟨S.toArray⟩) ∧ w'.cell? (ad.add (a + k)) = some (.int .u64 (x : Nat))) ∧ Below wr.heap.size wr w')
              (first
                | exact ⟨⟨(txt_cells (K.out _ bx).1).1, KC.out _ bx⟩, bx⟩
                | exact ⟨⟨(txt_cells (K.out _ (below_drewN (Below.refl _ _) 1)).1).1, KC.out _ (below_drewN (Below.refl _ _) 1)⟩, below_drewN (Below.refl _ _) 1⟩)
              (first
                | (go_at_call 43; refine (refBelow_any x y hx hy _).mono ?_; rintro e w3 ⟨rfl, bb⟩; rw [hs']; have bx : Below wr.heap.size wr w3 := (below_drewN (Below.refl _ _) 1).trans (bb.mono (Nat.le_refl _))))
            all_goals (
              go_wp2_with fail
              go_ret
              exact ⟨by rw [HF.out]; rfl, (K.out.step bx).now.2.2⟩)
        · have hne := same_no heq
          have HF : Hid (standsS S L y pat a z = false) := by
            show _ = _
            rw [Bool.eq_false_iff]
            intro hc
            have := (((standsS_iff _ _ _ _ _ _).1 hc).2 k hlt).1
            rw [E1.out, E2.out] at this
            injection this with this
            exact heq this
          clear heq
          generalize S[a + k] = b1 at *
          generalize pat[k] = b2 at *
          have y0 := (txt_cells K.out.now.1).1
          go_upto_region 6 with fail
          go_quiet (fail)
          go_wp2_with fail
          go_ret
          exact ⟨by rw [HF.out]; rfl, (K.out _ (below_drewN (Below.refl _ _) _)).2.2⟩
      · obtain rfl : k = pat.length := by omega
        have HF : Hid (standsS S L y pat a z = true) := (standsS_iff _ _ _ _ _ _).2 ⟨hlen, HST.out⟩
        go_wp2_with fail
        go_ret
        exact ⟨by rw [HF.out]; rfl, K.out.now.2.2⟩
  · have HF : Hid (standsS S L y pat a z = false) := by
      show _ = _
      rw [Bool.eq_false_iff]
      intro hc
      exact hlen ((standsS_iff _ _ _ _ _ _).1 hc).1
    go_enter Tryd.func67, Tryd.ntmps67
    go_upto_region 1 with fail
    change Code.wp _ _ _ _ (w.alloc (.cells #[.string ⟨S.toArray⟩, .slice A l.length c] 24))
    generalize w.alloc (.cells #[.string ⟨S.toArray⟩, .slice A l.length c] 24) = wa at *
    have g1 : decide ((pat.length : Int) > (z : Int) - (a : Int)) = true := decide_eq_true (by omega)
    go_wp2_with fail
    go_ret
    exact ⟨by rw [HF.out]; rfl, K.out.now.2.2⟩
end Go.Proofs.YtgmeamefbfgbgaaDoor

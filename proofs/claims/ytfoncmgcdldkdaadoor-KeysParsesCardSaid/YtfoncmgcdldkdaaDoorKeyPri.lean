/-
  The landed Print.
-/
import Derived.Test.YtfoncmgcdldkdaaDoorKeyWrt
import Derived.Test.YtfoncmgcdldkdaaDoorKeyBld
namespace Go.Proofs.YtfoncmgcdldkdaaDoor
open Go.RowKit

set_option maxRecDepth 100000 in
set_option maxHeartbeats 2000000 in
theorem keyPrint_any (A : Option Addr) (c B : Nat) (zs : List Int) (hz : ∀ z ∈ zs, -2147483648 ≤ z ∧ z ≤ 2147483647) (hlen : zs.length ≤ 1000000) (w : World) (hn : NamedW w) (hB : B ≤ w.heap.size) (h : Row w B A (zs.map runz)) :
    Calls Tryd.prog 11 #[.slice A zs.length c] w (GivesSN w (printA zs)) := by
  have HN : Hid (∀ wx, Below w.heap.size w wx → NamedW wx) := fun wx hb => hn.below hb (Nat.le_refl _)
  have HZ := Lib.hid hz
  clear hz hn
  by_cases hl : zs.length ≤ 256
  · have hl' : ¬ (256 : Int) < (zs.length : Int) := by omega
    have hb0 := bld_new w
    have hbb : Below w.heap.size w (w.alloc (.cells #[.pointer none, .slice none 0 0] 42)) := (Below.refl _ w).alloc (Nat.le_refl _) _
    go_enter Tryd.func11, Tryd.ntmps11
    go_wp2_with fail
    go_loopw [12] (fun i wr => ∃ k : Nat, k ≤ zs.length ∧ i = .int .i64 k ∧ BldIs w.heap.size w.heap.size (wordsK ((zs.take k).map Int.toNat)) wr ∧ Hid (∀ z ∈ zs.take k, keyK z) ∧ Below w.heap.size w wr) (fun i _ => zs.length - (intOf i).toNat)
    case atStart => exact ⟨0, Nat.zero_le _, rfl, hb0, fun z hz => by simp at hz, hbb⟩
    case round =>
      clear hb0 hbb
      obtain ⟨k, hk, rfl, hbl, HA, hb⟩ := hrel
      have z0 := hb.size
      by_cases hlt : k < zs.length
      · have hlt' : (k : Int) < (zs.length : Int) := by omega
        have hk0 : (0 : Int) ≤ (k : Int) := by omega
        obtain ⟨ad, rfl, _, v0⟩ := runz_at (h.below (hb.mono hB)) hlt
        have hzk := HZ.out zs[k] (List.getElem_mem hlt)
        have htk := Lib.hid (List.take_succ_eq_append_getElem hlt)
        have hmem : zs[k] ∈ zs := List.getElem_mem hlt
        obtain ⟨z, hzd⟩ : ∃ z, zs[k] = z := ⟨_, rfl⟩
        rw [hzd] at v0 hzk htk hmem
        clear hzd
        by_cases hk1 : keyK z
        · have hk2 := decide_eq_true hk1
          have hr := Lib.hid hk1
          have hz0 : ((z.toNat : Nat) : Int) = z := by unfold keyK at hk1; omega
          clear hk1
          have hw5 := writK_len z.toNat
          have hwl := wordsK_len ((zs.take k).map Int.toNat)
          rw [List.length_map, List.length_take] at hwl
          have HS := Lib.hid (show wordsK ((zs.take (k + 1)).map Int.toNat) = wordsK ((zs.take k).map Int.toNat) ++ writK z.toNat by rw [htk.out, List.map_append, List.map_singleton, wordsK_snoc])
          generalize wordsK ((zs.take k).map Int.toNat) = sk at *
          generalize hzr : z.toNat = r at *
          have HZR := Lib.hid hzr
          clear hz0 hzr
          go_wp2_with (first
            | (go_at_call 8; refine (keyMay_any z hzk _).mono ?_; rw [hk2]; rintro e w' ⟨rfl, hw⟩; subst w')
            | (go_at_call 19; refine (keyWritten_any z hzk _ (HN.out _ hb)).mono ?_; rintro e w1 ⟨F, rfl, hFl, hF, b1⟩; have hbl1 := hbl.below b1; have hb1 := hb.trans (b1.mono z0))
            | (go_at_call 18; refine (bldWrite_any _ _ _ F _ hbl1 (by omega) hb1.size).mono ?_; rintro e w2 ⟨⟨n2, rfl⟩, hbl2, b2⟩))
          go_roundw
          case rel => exact ⟨k + 1, by omega, by go_num, by rw [HS.out]; have hq := hF hr.out; rw [HZR.out] at hq; rw [← hq]; exact hbl2, fun x hx => by rw [htk.out] at hx; rcases List.mem_append.1 hx with hx | hx; exact HA.out x hx; rw [List.mem_singleton.1 hx]; exact hr.out, hb1.trans b2⟩
          case measure => simp [intOf]; omega
        · have hk2 := decide_eq_false hk1
          have HP : Hid (printA zs = ([], 2)) := by
            show _ = _
            unfold printA
            rw [if_pos hl, if_neg (fun h => hk1 (h z hmem))]
          clear hk1
          go_wp2_with (go_at_call 8; refine (keyMay_any z hzk _).mono ?_; rw [hk2]; rintro e w' ⟨rfl, hw⟩; subst w')
          go_ret2
          rw [HP.out]
          exact ⟨rfl, hb⟩
      · obtain rfl : k = zs.length := by omega
        have HP : Hid (printA zs = (wordsK (zs.map Int.toNat), 0)) := by
          show _ = _
          unfold printA
          have := HA.out
          rw [List.take_length] at this
          rw [if_pos hl, if_pos this]
        rw [List.take_length] at hbl
        go_wp2_with (go_at_call 20; refine (bldString_any _ _ _ _ hbl z0).mono ?_; rintro e w1 ⟨rfl, b1⟩)
        go_ret2
        rw [HP.out]
        exact ⟨rfl, hb.trans b1⟩
  · have hl' : (256 : Int) < (zs.length : Int) := by omega
    have HP : Hid (printA zs = ([], 3)) := by
      show _ = _
      unfold printA
      rw [if_neg hl]
    clear hl
    go_enter Tryd.func11, Tryd.ntmps11
    go_wp2_with fail
    go_ret2
    rw [HP.out]
    exact ⟨rfl, Below.refl _ _⟩
end Go.Proofs.YtfoncmgcdldkdaaDoor

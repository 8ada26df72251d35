/-
  Contracts of the document's own answers, layer 10: May, Written, begins, Same, Print.
-/
import Derived.Test.YtfoncmgcdldkdaaDoorKeyMath
import Derived.Test.YtfoncmgcdldkdaaDoorGlyList
import Derived.Test.YtfoncmgcdldkdaaDoorGlyEncode
import Derived.BigQuiet
import Derived.Deep.QuietTactic
import Derived.Deep.DeepCutAuto
namespace Go.Proofs.YtfoncmgcdldkdaaDoor
open Go.RowKit

set_option maxRecDepth 4000000 in
set_option maxHeartbeats 1000000 in
theorem refKMay_any (r : Int) (w : World) : Calls Tryd.prog 9 #[.int .i64 r] w fun e w' => e = .returned (.bool (decide (keyK r))) ∧ w' = w := by
  by_cases h1 : 1 ≤ r
  · by_cases h2 : r ≤ 27
    · have HK : Hid (decide (keyK r) = true) := decide_eq_true (Or.inl ⟨h1, h2⟩)
      go_enter Tryd.func9, Tryd.ntmps9
      go_wp2_with fail
      go_ret
      exact ⟨ret_bool (by first | (rw [HK.out]; done) | (rw [HK.out]; simp; omega) | (rw [HK.out]; simp; done)), rfl⟩
    · by_cases h3 : 32 ≤ r
      · by_cases h4 : r = 127
        · subst h4
          have HK := Lib.hid (show decide (keyK 127) = false by decide)
          clear h1 h2 h3
          go_enter Tryd.func9, Tryd.ntmps9
          go_wp2_with fail
          go_ret
          exact ⟨ret_bool (by first | (rw [HK.out]; done) | (rw [HK.out]; simp; done)), rfl⟩
        · have e4 : (r != 127) = true := by simpa using h4
          have HK : Hid (decide (keyK r) = mayB r) := by
            show _ = _
            have h : keyK r ↔ (0 ≤ r ∧ r ≤ 1114111) ∧ (r < 55296 ∨ 57343 < r) := by unfold keyK; omega
            rw [Bool.eq_iff_iff, decide_eq_true_iff, h]
            simp [mayB]
          clear h4
          go_enter Tryd.func9, Tryd.ntmps9
          go_wp2_with (go_at_call 17; refine (refMay_any r _).mono ?_; rintro e w' ⟨rfl, hw⟩; subst w')
          go_ret
          exact ⟨ret_bool (by first | (rw [HK.out]; done) | (rw [HK.out]; simp; omega) | (rw [HK.out]; simp; done)), rfl⟩
      · have HK : Hid (decide (keyK r) = false) := decide_eq_false (by unfold keyK; omega)
        go_enter Tryd.func9, Tryd.ntmps9
        go_wp2_with fail
        go_ret
        exact ⟨ret_bool (by first | (rw [HK.out]; done) | (rw [HK.out]; simp; omega) | (rw [HK.out]; simp; done)), rfl⟩
  · have HK : Hid (decide (keyK r) = false) := decide_eq_false (by unfold keyK; omega)
    go_enter Tryd.func9, Tryd.ntmps9
    go_wp2_with fail
    go_ret
    exact ⟨ret_bool (by first | (rw [HK.out]; done) | (rw [HK.out]; simp; omega) | (rw [HK.out]; simp; done)), rfl⟩

set_option maxRecDepth 100000 in
set_option maxHeartbeats 1000000 in
theorem refKWritten_any (r : Nat) (hr : 1 ≤ r ∧ r ≤ 1114111) (w : World) : Calls Tryd.prog 21 #[.int .i64 r] w fun e w' => e = .returned (.string ⟨(writK r).toArray⟩) ∧ Below w.heap.size w w' := by
  by_cases h27 : r = 27
  · subst h27
    go_enter Tryd.func21, Tryd.ntmps21
    go_wp2_with fail
    go_ret
    exact ⟨rfl, Below.refl _ _⟩
  by_cases h13 : r = 13
  · subst h13
    go_enter Tryd.func21, Tryd.ntmps21
    go_wp2_with fail
    go_ret
    exact ⟨rfl, Below.refl _ _⟩
  by_cases h8 : r = 8
  · subst h8
    go_enter Tryd.func21, Tryd.ntmps21
    go_wp2_with fail
    go_ret
    exact ⟨rfl, Below.refl _ _⟩
  by_cases h9 : r = 9
  · subst h9
    go_enter Tryd.func21, Tryd.ntmps21
    go_wp2_with fail
    go_ret
    exact ⟨rfl, Below.refl _ _⟩
  by_cases h60 : r = 60
  · subst h60
    go_enter Tryd.func21, Tryd.ntmps21
    go_wp2_with fail
    go_ret
    exact ⟨rfl, Below.refl _ _⟩
  have e27 : ((r : Int) == 27) = false := by rw [beq_eq_false_iff_ne]; omega
  have e13 : ((r : Int) == 13) = false := by rw [beq_eq_false_iff_ne]; omega
  have e8 : ((r : Int) == 8) = false := by rw [beq_eq_false_iff_ne]; omega
  have e9 : ((r : Int) == 9) = false := by rw [beq_eq_false_iff_ne]; omega
  have e60 : ((r : Int) == 60) = false := by rw [beq_eq_false_iff_ne]; omega
  by_cases h32 : r < 32
  · have hW : Hid (writK r = [60, 67, 45, byteOf (96 + r), 62]) := by
      show _ = _
      unfold writK
      rw [if_neg h27, if_neg h13, if_neg h8, if_neg h9, if_neg h60, if_pos h32]
    have h32' : (r : Int) < 32 := by omega
    have hcv := str_new (P := Tryd.prog) w 40 9 5 5 Tryd.underlying40 Tryd.underlying5 Tryd.underlying9 [byteOf (96 + r)] [.int .u8 (97 + (r : Int) - 1)]
      (by simp only [List.map_cons, List.map_nil, byteOf]; rw [byt_nat (n := 96 + r) (i := 97 + (r : Int) - 1) (by omega) (by omega)]) 1 1 rfl
    clear h27 h13 h8 h9 h60 h32
    go_enter Tryd.func21, Tryd.ntmps21
    go_wp2_with fail
    go_ret
    exact ⟨by rw [hW.out]; rfl, (Below.refl _ _).alloc (Nat.le_refl _) _⟩
  · have hW : Hid (writK r = enc r) := by
      show _ = _
      unfold writK
      rw [if_neg h27, if_neg h13, if_neg h8, if_neg h9, if_neg h60, if_neg h32]
    have h32' : ¬ (r : Int) < 32 := by omega
    clear h27 h13 h8 h9 h60 h32
    go_enter Tryd.func21, Tryd.ntmps21
    go_wp2_with (go_at_call 27; refine (refBytes_any r hr.2 _).mono ?_; rintro e w1 ⟨rfl, b1⟩)
    go_ret
    exact ⟨by rw [hW.out]; rfl, b1⟩
theorem text_front (s : List UInt8) (k : Nat) : ({ data := s.toArray } : ByteArray).extract 0 k = ⟨(s.take k).toArray⟩ := by
  apply ByteArray.ext
  rw [ByteArray.data_extract]
  apply Array.ext'
  simp
set_option maxHeartbeats 1000000 in
theorem refKBegins_any (S T : List UInt8) (_hS : S.length ≤ 1000000) (_hT : T.length ≤ 1000000) (w : World) : Calls Tryd.prog 29 #[.string ⟨S.toArray⟩, .string ⟨T.toArray⟩] w fun e w' => e = .returned (.bool (T.isPrefixOf S)) ∧ w' = w := by
  by_cases hl : T.length ≤ S.length
  · have hl' : (T.length : Int) ≤ (S.length : Int) := by omega
    have HE : Hid (T.isPrefixOf S = decide (S.take T.length = T)) := by
      show _ = _
      rw [Bool.eq_iff_iff, List.isPrefixOf_iff_prefix, decide_eq_true_iff, List.prefix_iff_eq_take]
      exact ⟨fun h => h.symm, fun h => h.symm⟩
    go_enter Tryd.func29, Tryd.ntmps29
    go_wp2_with fail
    go_ret
    refine ⟨?_, rfl⟩
    rw [HE.out, text_front]
    simp only [ByteArray.toList_eq]
    rw [show ((List.take T.length S).toArray.toList == T) = decide (List.take T.length S = T) by rw [Bool.eq_iff_iff, beq_iff_eq, decide_eq_true_iff]]
    rfl
  · have HE : Hid (T.isPrefixOf S = false) := by
      show _ = _
      rw [Bool.eq_false_iff]
      intro h
      exact hl (List.IsPrefix.length_le (List.isPrefixOf_iff_prefix.1 h))
    have hl' : ¬ (T.length : Int) ≤ (S.length : Int) := by omega
    clear hl
    go_enter Tryd.func29, Tryd.ntmps29
    go_wp2_with fail
    go_ret
    exact ⟨by rw [HE.out]; first | rfl | (simp; omega), rfl⟩

/-- runes that lie in a row -/
theorem runz_at {w : World} {B k : Nat} {A : Option Addr} {zs : List Int} (h : Row w B A (zs.map runz)) (hk : k < zs.length) : ∃ ad, A = some ad ∧ ad.block < B ∧ w.cell? (ad.add k) = some (.int .i32 zs[k]) := h.map_at hk
set_option maxHeartbeats 1000000 in
theorem refKSame_any (A A2 : Option Addr) (c d B : Nat) (xs ys : List Int) (hx : xs.length ≤ 1000000) (hy : ys.length ≤ 1000000) (w : World) (hB : B ≤ w.heap.size) (h : Row w B A (xs.map runz)) (hh : Row w B A2 (ys.map runz)) :
    Calls Tryd.prog 15 #[.slice A xs.length c, .slice A2 ys.length d] w fun e w' => e = .returned (.bool (decide (xs = ys))) ∧ Below w.heap.size w w' := by
  by_cases hl : xs.length = ys.length
  · have hl' : ((xs.length : Int) != (ys.length : Int)) = false := by simp [hl]
    go_enter Tryd.func15, Tryd.ntmps15
    go_wp2_with fail
    go_loopw [5] (fun i wr => ∃ k : Nat, k ≤ xs.length ∧ i = .int .i64 k ∧ xs.take k = ys.take k ∧ Below w.heap.size w wr) (fun i _ => xs.length - (intOf i).toNat)
    case atStart => exact ⟨0, Nat.zero_le _, rfl, rfl, Below.refl _ _⟩
    case round =>
      obtain ⟨k, hk, rfl, ht, hb⟩ := hrel
      have HT := Lib.hid ht
      clear ht
      by_cases hlt : k < xs.length
      · have hlt' : (k : Int) < (xs.length : Int) := by omega
        have hlt2 : (k : Int) < (ys.length : Int) := by omega
        have hky : k < ys.length := by omega
        have hk0 : (0 : Int) ≤ (k : Int) := by omega
        obtain ⟨ad, rfl, _, v0⟩ := runz_at (h.below (hb.mono hB)) hlt
        obtain ⟨ae, rfl, _, v1⟩ := runz_at (hh.below (hb.mono hB)) hky
        have v0d : ∀ n, (wr.drewN n).cell? (ad.add k) = some (.int .i32 xs[k]) := fun n => v0
        have v1d : ∀ n, (wr.drewN n).cell? (ae.add k) = some (.int .i32 ys[k]) := fun n => v1
        by_cases he : xs[k] = ys[k]
        · have hne : (xs[k] != ys[k]) = false := by simpa using he
          have HE := Lib.hid he
          clear he
          go_upto_region 6 with fail
          go_quiet (fail)
          go_wp2_with fail
          go_roundw
          case rel => exact ⟨k + 1, by omega, by go_num, by rw [List.take_succ_eq_append_getElem hlt, List.take_succ_eq_append_getElem hky, HT.out, HE.out], below_drewN hb _⟩
          case measure => simp [intOf]; omega
        · have hne : (xs[k] != ys[k]) = true := by simpa using he
          have HE : Hid (decide (xs = ys) = false) := decide_eq_false (fun e => he (by subst e; rfl))
          clear he
          go_upto_region 6 with fail
          go_quiet (fail)
          go_wp2_with fail
          go_ret
          exact ⟨by rw [HE.out]; rfl, below_drewN hb _⟩
      · have HE : Hid (decide (xs = ys) = true) := decide_eq_true (by have := HT.out; rwa [List.take_of_length_le (by omega), List.take_of_length_le (by omega)] at this)
        have hlt' : ¬ (k : Int) < (xs.length : Int) := by omega
        go_wp2_with fail
        go_ret
        exact ⟨by rw [HE.out]; rfl, hb⟩
  · have hl' : ((xs.length : Int) != (ys.length : Int)) = true := by rw [bne_iff_ne]; omega
    have HE : Hid (decide (xs = ys) = false) := decide_eq_false (fun e => hl (by rw [e]))
    clear hl
    go_enter Tryd.func15, Tryd.ntmps15
    go_wp2_with fail
    go_ret
    exact ⟨by rw [HE.out]; rfl, Below.refl _ _⟩
end Go.Proofs.YtfoncmgcdldkdaaDoor

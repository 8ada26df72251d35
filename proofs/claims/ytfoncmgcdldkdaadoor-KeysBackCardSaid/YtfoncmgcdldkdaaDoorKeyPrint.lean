/-
  The document's Print: layer 10.
-/
import Derived.Test.YtfoncmgcdldkdaaDoorKeyRef
namespace Go.Proofs.YtfoncmgcdldkdaaDoor
open Go.RowKit

theorem wordsK_snoc (l : List Nat) (r : Nat) : wordsK (l ++ [r]) = wordsK l ++ writK r := by simp [wordsK]
theorem wordsK_len (l : List Nat) : (wordsK l).length ≤ l.length * 5 := by
  induction l with
  | nil => simp [wordsK]
  | cons r l ih =>
    have := writK_len r
    have e : wordsK (r :: l) = writK r ++ wordsK l := by simp [wordsK]
    rw [e, List.length_append, List.length_cons]
    omega
theorem bytes_app (a b : List UInt8) : ({ data := a.toArray } : ByteArray) ++ { data := b.toArray } = { data := (a ++ b).toArray } := by
  apply ByteArray.ext
  rw [ByteArray.data_append]
  simp
/-- a text and a number -/
def GivesSN (w : World) (r : List UInt8 × Nat) (e : Ending) (w' : World) : Prop := e = .returned (.tuple #[.string ⟨r.1.toArray⟩, .int .i64 (r.2 : Nat)]) ∧ Below w.heap.size w w'
set_option maxHeartbeats 1000000 in
theorem refKPrint_any (A : Option Addr) (c B : Nat) (zs : List Int) (hz : ∀ z ∈ zs, -2147483648 ≤ z ∧ z ≤ 2147483647) (hlen : zs.length ≤ maxLen) (w : World) (hB : B ≤ w.heap.size) (h : Row w B A (zs.map runz)) :
    Calls Tryd.prog 12 #[.slice A zs.length c] w (GivesSN w (printA zs)) := by
  unfold maxLen at hlen
  have HZ := Lib.hid hz
  clear hz
  by_cases hl : zs.length ≤ 256
  · have hl' : ¬ (256 : Int) < (zs.length : Int) := by omega
    go_enter Tryd.func12, Tryd.ntmps12
    go_wp2_with fail
    go_loopw [4, 5] (fun s i wr => ∃ k : Nat, k ≤ zs.length ∧ i = .int .i64 k ∧ s = .string ⟨(wordsK ((zs.take k).map Int.toNat)).toArray⟩ ∧ (∀ z ∈ zs.take k, keyK z) ∧ Below w.heap.size w wr) (fun _ i _ => zs.length - (intOf i).toNat)
    case atStart => exact ⟨0, Nat.zero_le _, rfl, rfl, fun z hz => by simp at hz, Below.refl _ _⟩
    case round =>
      obtain ⟨k, hk, rfl, rfl, hall, hb⟩ := hrel
      have HA := Lib.hid hall
      clear hall
      by_cases hlt : k < zs.length
      · have hlt' : (k : Int) < (zs.length : Int) := by omega
        have hk0 : (0 : Int) ≤ (k : Int) := by omega
        obtain ⟨ad, rfl, _, v0⟩ := runz_at (h.below (hb.mono hB)) hlt
        have hzk := HZ.out zs[k] (List.getElem_mem hlt)
        have htk := Lib.hid (List.take_succ_eq_append_getElem hlt)
        have hmem : zs[k] ∈ zs := List.getElem_mem hlt
        obtain ⟨z, hzd⟩ : ∃ z, zs[k] = z := ⟨_, rfl⟩
        rw [hzd] at v0 hzk htk hmem
        clear hzd
        by_cases hk1 : keyK z
        · have hk2 := decide_eq_true hk1
          have hr := Lib.hid hk1
          have hzr : 1 ≤ z ∧ z ≤ 1114111 := by unfold keyK at hk1; omega
          obtain ⟨r, rfl⟩ : ∃ r : Nat, z = (r : Int) := ⟨z.toNat, by omega⟩
          clear hk1
          have hw5 := writK_len r
          have hwl := wordsK_len ((zs.take k).map Int.toNat)
          rw [List.length_map, List.length_take] at hwl
          have hsum : ¬ 9223372036854775807 < (wordsK ((zs.take k).map Int.toNat)).length + (writK r).length := by omega
          have HS := Lib.hid (show wordsK ((zs.take (k + 1)).map Int.toNat) = wordsK ((zs.take k).map Int.toNat) ++ writK r by rw [htk.out, List.map_append, List.map_singleton, wordsK_snoc, Int.toNat_natCast])
          generalize wordsK ((zs.take k).map Int.toNat) = sk at *
          go_wp2_with (first
            | (go_at_call 9; refine (refKMay_any (r : Int) _).mono ?_; rw [hk2]; rintro e w' ⟨rfl, hw⟩; subst w')
            | (go_at_call 21; refine (refKWritten_any r (by omega) _).mono ?_; rintro e w1 ⟨rfl, b1⟩))
          go_roundw
          case rel => exact ⟨k + 1, by omega, by go_num, by rw [HS.out, bytes_app], fun x hx => by rw [htk.out] at hx; rcases List.mem_append.1 hx with hx | hx; exact HA.out x hx; rw [List.mem_singleton.1 hx]; exact hr.out, hb.trans (b1.mono hb.size)⟩
          case measure => simp [intOf]; omega
        · have hk2 := decide_eq_false hk1
          have HP : Hid (printA zs = ([], 2)) := by
            show _ = _
            unfold printA
            rw [if_pos hl, if_neg (fun h => hk1 (h z hmem))]
          clear hk1
          go_wp2_with (go_at_call 9; refine (refKMay_any z _).mono ?_; rw [hk2]; rintro e w' ⟨rfl, hw⟩; subst w')
          go_ret2
          exact ⟨by rw [HP.out]; rfl, hb⟩
      · have hlt' : ¬ (k : Int) < (zs.length : Int) := by omega
        have HP : Hid (printA zs = (wordsK ((zs.take k).map Int.toNat), 0)) := by
          show _ = _
          have e : zs.take k = zs := List.take_of_length_le (by omega)
          have hall := HA.out
          rw [e] at hall ⊢
          unfold printA
          rw [if_pos hl, if_pos hall]
        generalize wordsK ((zs.take k).map Int.toNat) = sk at *
        go_wp2_with fail
        go_ret2
        exact ⟨by rw [HP.out]; rfl, hb⟩
  · have hl' : (256 : Int) < (zs.length : Int) := by omega
    have HP : Hid (printA zs = ([], 3)) := if_neg hl
    clear hl
    go_enter Tryd.func12, Tryd.ntmps12
    go_wp2_with fail
    go_ret2
    exact ⟨by rw [HP.out]; rfl, Below.refl _ _⟩
end Go.Proofs.YtfoncmgcdldkdaaDoor

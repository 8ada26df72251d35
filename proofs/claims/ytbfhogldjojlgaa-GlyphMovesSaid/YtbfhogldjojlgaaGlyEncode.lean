/-
  The contract of the document's own answer, layer 2: Encode.
-/
import Derived.Test.YtbfhogldjojlgaaGlyOne
import Derived.Lib.AppendStr
namespace Go.Proofs.Ytbfhogldjojlgaa
open Go.RowKit

/-- the bytes of any number -/
def encB (r : Int) : List UInt8 := if mayB r = true then enc r.toNat else enc 0xFFFD
def encAll (l : List Int) : List UInt8 := l.flatMap encB
theorem encAll_snoc (l : List Int) (r : Int) : encAll (l ++ [r]) = encAll l ++ encB r := by simp [encAll]
theorem encB_len (r : Int) : 1 ≤ (encB r).length ∧ (encB r).length ≤ 4 := by unfold encB; split <;> exact enc_len _
theorem encAll_len (l : List Int) : (encAll l).length ≤ 4 * l.length := by
  induction l with
  | nil => simp [encAll]
  | cons r l ih =>
    have := encB_len r
    simp only [encAll, List.flatMap_cons, List.length_append, List.length_cons] at *
    omega
def runz (n : Int) : Value := .int .i32 n
theorem strCells_list (bs : List UInt8) : Lib.strCells ⟨bs.toArray⟩ = bs.map byt := by
  simp [Lib.strCells, byt]
theorem byte_info : (Try.prog.info? 5).map (fun i => (i.zero, i.size, i.bytes)) = some (some (.int .u8 0), 1, 1) := by kernel_rfl

set_option maxHeartbeats 1000000 in
theorem refEncode_any (A : Option Addr) (c B : Nat) (zs : List Int) (hz : ∀ z ∈ zs, -2147483648 ≤ z ∧ z ≤ 2147483647) (hlen : zs.length ≤ 1000000) (w : World) (hB : B ≤ w.heap.size) (h : Row w B A (zs.map runz)) :
    Calls Try.prog 25 #[.slice A zs.length c] w fun e w' => e = .returned (.string ⟨(encAll zs).toArray⟩) ∧ Below w.heap.size w w' := by
  obtain ⟨i0, hi, hz0, hz1, hz2⟩ := info_parts byte_info
  have HZ := Lib.hid hz
  clear hz
  go_enter Try.func25, Try.ntmps25
  go_wp2
  go_loopw [3, 4] (fun v i wr => ∃ k : Nat, k ≤ zs.length ∧ i = .int .i64 k ∧ wr.ownsRow w.heap.size 5 1 v (encAll (zs.take k)).length ((encAll (zs.take k)).map byt) ∧ Below w.heap.size w wr) (fun _ i _ => zs.length - (intOf i).toNat)
  case atStart => exact ⟨0, Nat.zero_le _, rfl, World.ownsRow_nil _ _ _ _, Below.refl _ _⟩
  case round =>
    obtain ⟨k, hk, rfl, hown, hb⟩ := hrel
    have z := hb.size
    have hdl := encAll_len (zs.take k)
    rw [List.length_take, Nat.min_eq_left hk] at hdl
    by_cases hlt : k < zs.length
    · obtain ⟨ad, rfl, hbl, hcell⟩ := (h.below (hb.mono hB)).map_at hlt
      have hzk := HZ.out zs[k] (List.getElem_mem hlt)
      have HT : Hid (encAll (zs.take (k + 1)) = encAll (zs.take k) ++ encB zs[k]) := by
        show encAll _ = _
        rw [List.take_succ_eq_append_getElem hlt, encAll_snoc]
      unfold runz at hcell
      obtain ⟨A1, c1, rfl⟩ := own_form hown
      generalize zs[k] = r at *
      generalize encAll (zs.take k) = t at *
      obtain ⟨m, hm, hm2⟩ : ∃ m : Nat, m ≤ 1114111 ∧ encB r = enc m ∧ (mayB r = true → r = (m : Int)) ∧ (mayB r = false → m = 65533) := by
        unfold encB
        cases hmb : mayB r with
        | true =>
          have h0 : 0 ≤ r ∧ r ≤ 1114111 := by unfold mayB at hmb; simp at hmb; omega
          exact ⟨r.toNat, by omega, by rw [if_pos rfl], fun _ => (by omega), fun h => (by cases h)⟩
        | false => exact ⟨65533, by omega, by rw [if_neg (by decide)], fun h => (by cases h), fun _ => rfl⟩
      obtain ⟨hm3, hm4, hm5⟩ := hm2
      have HE := Lib.hid hm3
      have hel := enc_len m
      clear hm3
      cases hmb : mayB r
      · obtain rfl := hm5 hmb
        clear hm4 hm5
        go_wp2_with (first
          | (go_at_call 31; refine (refMay_any _ _).mono ?_; rintro e w1 ⟨rfl, rfl⟩; rw [hmb])
          | (go_at_call 32; refine (refBytes_any 65533 hm _).mono ?_; rintro e w2 ⟨rfl, hb2⟩; have z2 := hb2.size; have hown2 := own_keep hown hb2 (Nat.le_refl _))
          | (at_builtin; refine Lib.wpList_append_own_string _ rfl _ _ 46 9 rfl w.heap.size 5 i0 Try.underlying46 Try.underlying9 hi hz0 hz1 hz2 _ _ _ rfl hown2 ⟨(enc 65533).toArray⟩ rfl (by simp [ByteArray.size]; unfold maxLen; omega) (by simp [ByteArray.size]; omega) (by omega) ?_; intro v3 w3 hown3 hg3 _))
        have hown4 := hown3
        rw [strCells_list] at hown4
        go_roundw
        case rel => exact ⟨k + 1, by omega, by go_num, by rw [HT.out, HE.out]; simpa [ByteArray.size] using hown4, (hb.trans (hb2.mono z)).trans (own_below hown2 hg3 (by omega))⟩
        case measure => simp [intOf]; omega
      · obtain rfl := hm4 hmb
        clear hm4 hm5
        go_wp2_with (first
          | (go_at_call 31; refine (refMay_any _ _).mono ?_; rintro e w1 ⟨rfl, rfl⟩; rw [hmb])
          | (go_at_call 32; refine (refBytes_any m hm _).mono ?_; rintro e w2 ⟨rfl, hb2⟩; have z2 := hb2.size; have hown2 := own_keep hown hb2 (Nat.le_refl _))
          | (at_builtin; refine Lib.wpList_append_own_string _ rfl _ _ 46 9 rfl w.heap.size 5 i0 Try.underlying46 Try.underlying9 hi hz0 hz1 hz2 _ _ _ rfl hown2 ⟨(enc m).toArray⟩ rfl (by simp [ByteArray.size]; unfold maxLen; omega) (by simp [ByteArray.size]; omega) (by omega) ?_; intro v3 w3 hown3 hg3 _))
        have hown4 := hown3
        rw [strCells_list] at hown4
        go_roundw
        case rel => exact ⟨k + 1, by omega, by go_num, by rw [HT.out, HE.out]; simpa [ByteArray.size] using hown4, (hb.trans (hb2.mono z)).trans (own_below hown2 hg3 (by omega))⟩
        case measure => simp [intOf]; omega
    · obtain rfl : k = zs.length := by omega
      rw [List.take_length] at hown
      obtain ⟨A1, c1, rfl⟩ := own_form hown
      have hcv := str_of_row (P := Try.prog) (c := c1) 46 9 5 Try.underlying46 Try.underlying5 Try.underlying9 (Row.of_own hown)
      clear hown
      go_wp2
      go_ret
      exact ⟨rfl, hb⟩
end Go.Proofs.Ytbfhogldjojlgaa

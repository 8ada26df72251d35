/-
  The walks of the statements of layer 2, from what package glyph's functions answer: GlyphEncodes, GlyphBack.
-/
import Derived.Test.YtbfhogldjojlgaaGlyMath
namespace Go.Proofs.Ytbfhogldjojlgaa
open Go.RowKit

set_option maxHeartbeats 1000000 in
theorem glyphEncodes_walk (G : GlySays) (w : World) (A : Option Addr) (c : Nat) (zs : List Int) (hlen : zs.length ≤ maxLen) (hz : ∀ z ∈ zs, -2147483648 ≤ z ∧ z ≤ 2147483647) (h : Row w w.heap.size A (zs.map runz)) :
    Calls Try.prog 5 #[.slice A zs.length c] w fun e w' => e = .returned (.bool true) ∧ Below w.heap.size w w' := by
  have HG := Lib.hid G
  clear G
  have HZ := Lib.hid hz
  clear hz
  by_cases hmost : 4096 < zs.length
  · go_enter Try.func5, Try.ntmps5
    go_wp2_with (go_at_call 9; refine (glyAlive_any HG.out _).mono ?_; rintro e w1 ⟨rfl, hb1⟩)
    go_ret
    exact ⟨rfl, hb1⟩
  · have hlen2 : zs.length ≤ 1000000 := by omega
    have hel := encAll_len zs
    have HV := Lib.hid (encAll_valid zs)
    have HC := Lib.hid (encAll_count zs)
    go_enter Try.func5, Try.ntmps5
    go_wp2_with fail
    refine (glyAlive_any HG.out _).mono ?_
    rintro e w1 ⟨rfl, hb1⟩
    have z1 := hb1.size
    have h1 := h.below hb1
    go_wp2_with fail
    refine (HG.out.encode A c _ zs _ HZ.out hlen2 z1 h1).mono ?_
    rintro e w2 ⟨rfl, hb2⟩
    have z2 := hb2.size
    have h2 := h1.below (hb2.mono z1)
    go_wp2_with fail
    refine (refEncode_any A c _ zs HZ.out hlen2 _ (by omega) h2).mono ?_
    rintro e w3 ⟨rfl, hb3⟩
    have z3 := hb3.size
    go_wp2_with fail
    refine (HG.out.valid (encAll zs) _ (by omega)).mono ?_
    rintro e w4 ⟨rfl, hb4⟩
    rw [HV.out]
    have z4 := hb4.size
    go_wp2_with fail
    refine (HG.out.count (encAll zs) _ (by omega)).mono ?_
    rintro e w5 ⟨rfl, hb5⟩
    rw [HC.out]
    go_wp2_with fail
    go_ret
    exact ⟨rfl, (((hb1.trans (hb2.mono z1)).trans (hb3.mono (by omega))).trans (hb4.mono (by omega))).trans (hb5.mono (by omega))⟩

theorem elt_rune : Elt Try.prog 34 21 (.int .i32 0) 1 4 := ⟨Try.underlying34, by kernel_rfl, rfl, by decide⟩
theorem runes_take (l : List (Nat × Nat)) (k : Nat) (h : k < l.length) : runes (l.take (k + 1)) = runes (l.take k) ++ [(l[k].1 : Int)] := by
  unfold runes
  rw [List.take_succ_eq_append_getElem h, List.map_append]; rfl
theorem getD_at (l : List (Nat × Nat)) (k : Nat) (h : k < l.length) : l.getD k (0, 0) = l[k] := by simp [List.getD, h]

set_option maxHeartbeats 1000000 in
theorem glyphBack_walk (G : GlySays) (w : World) (S : List UInt8) (hS : S.length ≤ maxLen) :
    Calls Try.prog 8 #[.string ⟨S.toArray⟩] w fun e w' => e = .returned (.bool true) ∧ Below w.heap.size w w' := by
  have HG := Lib.hid G
  clear G
  by_cases hmost : 4096 < S.length
  · go_enter Try.func8, Try.ntmps8
    go_wp2_with (go_at_call 9; refine (glyAlive_any HG.out _).mono ?_; rintro e w1 ⟨rfl, hb1⟩)
    go_ret
    exact ⟨rfl, hb1⟩
  · have hs : S.length ≤ 1000000 := by omega
    have hcl := chars_len S
    have HL : Hid ((startsAt 0 (chars S)).length = (chars S).length) := startsAt_len _ _
    have HB := Lib.hid (back S)
    have hwc := width_chars S
    have HW := Lib.hid hwc
    clear hwc
    go_enter Try.func8, Try.ntmps8
    go_wp2_with fail
    refine (glyAlive_any HG.out _).mono ?_
    rintro e w1 ⟨rfl, hb1⟩
    have z1 := hb1.size
    go_wp2_with fail
    refine (HG.out.starts S _ hs).mono ?_
    rintro e w2 ⟨A, c, rfl, hown, hb2⟩
    have z2 := hb2.size
    have hrow := Row.of_own hown
    clear hown
    rw [HL.out]
    go_wp2_with fail
    go_loopw [3, 16] (fun v i wr => ∃ k : Nat, k ≤ (chars S).length ∧ i = .int .i64 k ∧ wr.ownsRow w2.heap.size 21 1 v k ((runes ((chars S).take k)).map runz) ∧ Below w2.heap.size w2 wr) (fun _ i _ => (chars S).length - (intOf i).toNat)
    case atStart => exact ⟨0, Nat.zero_le _, rfl, World.ownsRow_nil _ _ _ _, Below.refl _ _⟩
    case round =>
      obtain ⟨k, hk, rfl, hown, hb⟩ := hrel
      have z := hb.size
      by_cases hlt : k < (chars S).length
      · obtain ⟨ad, rfl, hbl, hcell⟩ := (hrow.below hb).map_at (k := k) (by rw [HL.out]; exact hlt)
        rw [startsAt_get _ k hlt] at hcell
        unfold intn at hcell
        have HT := Lib.hid (runes_take (chars S) k hlt)
        have HGD := Lib.hid (getD_at (chars S) k hlt)
        have hbd := (chars_bound S _ (List.getElem_mem hlt)).1
        have hws := width_succ (chars S) k hlt
        have hps := (chars_bound S _ (List.getElem_mem hlt)).2.1
        have hin : Which (chars S) ((width ((chars S).take k) : Nat) : Int) k := which_in hlt (Int.le_refl _) (by omega)
        have HI := Lib.hid hin
        clear hin hws
        generalize hx : (chars S)[k] = x at *
        have HX := Lib.hid hx
        clear hx
        obtain ⟨A1, c1, rfl⟩ := own_form hown
        go_wp2_with fail
        refine (HG.out.at_ S _ _ hs).mono ?_
        rintro e w3 ⟨j, rfl, hj, hb3⟩
        obtain rfl := hj.unique HI.out
        clear hj
        rw [HGD.out]
        have z3 := hb3.size
        have hown3 := own_keep hown hb3 (Nat.le_refl _)
        clear hown
        go_wp2_with (at_builtin; refine wpList_push rfl _ _ _ rfl w2.heap.size 21 _ 4 elt_rune _ _ _ _ rfl hown3 (.int .i32 (x.1 : Int)) rfl rfl (by unfold maxLen; omega) (by omega) (by omega) ?_; intro v4 w4 hown4 hb4)
        go_roundw
        case rel => exact ⟨j + 1, by omega, by go_num, by rw [HT.out]; simpa [runz] using hown4, (hb.trans (hb3.mono z)).trans hb4⟩
        case measure => simp [intOf]; omega
      · obtain rfl : k = (chars S).length := by omega
        rw [List.take_length] at hown
        have hrl : (runes (chars S)).length = (chars S).length := by simp [runes]
        have HRL := Lib.hid hrl
        have hrb : ∀ r ∈ runes (chars S), -2147483648 ≤ r ∧ r ≤ 2147483647 := fun r hr => by
          unfold runes at hr
          obtain ⟨x, hx, rfl⟩ := List.mem_map.1 hr
          have := (chars_bound S x hx).1
          omega
        have HRB := Lib.hid hrb
        have hel := encAll_len (runes (chars S))
        rw [hrl] at hel
        obtain ⟨A1, c1, rfl⟩ := own_form hown
        have hrow1 := Row.of_own hown
        clear hown hrb hrl
        go_wp2_with fail
        rw [← HRL.out]
        refine (HG.out.encode A1 c1 _ (runes (chars S)) _ HRB.out (by rw [HRL.out]; omega) (Nat.le_refl _) hrow1).mono ?_
        rintro e w3 ⟨rfl, hb3⟩
        have z3 := hb3.size
        have hBB := HB.out
        go_wp2_with fail
        refine (HG.out.valid S _ hs).mono ?_
        rintro e w4 ⟨rfl, hb4⟩
        go_wp2_with fail
        go_ret
        exact ⟨rfl, (((hb1.trans (hb2.mono z1)).trans (hb.mono (by omega))).trans (hb3.mono (by omega))).trans (hb4.mono (by omega))⟩
end Go.Proofs.Ytbfhogldjojlgaa

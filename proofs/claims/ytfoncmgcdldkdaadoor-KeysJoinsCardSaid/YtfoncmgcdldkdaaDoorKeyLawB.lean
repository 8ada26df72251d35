/-
  Keys come back from how they are written, and texts from their keys; keys one behind the other: layer 10.
-/
import Derived.Test.YtfoncmgcdldkdaaDoorKeyLawA
import Derived.Test.YtfoncmgcdldkdaaDoorPieMem
namespace Go.Proofs.YtfoncmgcdldkdaaDoor
open Go.RowKit

theorem printA_len (zs : List Int) : (printA zs).1.length ≤ 1280 := by
  unfold printA
  split
  · next h =>
    split
    · have := wordsK_len (zs.map Int.toNat)
      rw [List.length_map] at this
      dsimp only
      omega
    · simp
  · simp
/-- what was printed is read -/
theorem parse_back {w : World} (KS : KeySays w) {zs : List Int} (h : (printA zs).2 = 0) : Calls Tryd.prog 13 #[.string ⟨(printA zs).1.toArray⟩] w fun e w' => ∃ A c, e = .returned (.tuple #[.slice A zs.length c, .int .i64 0]) ∧ Row w' w'.heap.size A (zs.map runz) ∧ Below w.heap.size w w' := by
  refine (KS.parse (printA zs).1 w (Below.refl _ _) (by have := printA_len zs; omega)).mono ?_
  rw [parse_print h]
  rintro e w' ⟨A, c, rfl, hr, hb⟩
  dsimp only at hr
  rw [(nat_keys (printA_ok h).2.1).2] at hr
  exact ⟨A, c, by simp, hr, hb⟩
/-- what was read is printed -/
theorem print_back {w : World} (KS : KeySays w) {S : List UInt8} {l : List Nat} (h : parseA S = (l, 0)) (A : Option Addr) (c : Nat) (hr : Row w w.heap.size A ((l.map fun x : Nat => (x : Int)).map runz)) : Calls Tryd.prog 11 #[.slice A l.length c] w fun e w' => e = .returned (.tuple #[.string ⟨S.toArray⟩, .int .i64 0]) ∧ Below w.heap.size w w' := by
  have h0 : (parseA S).2 = 0 := by rw [h]
  obtain ⟨l', e, h1, h2, h3⟩ := parseA_ok h0
  rw [h] at e
  injection e with e _
  subst e
  have hp := print_parse h0
  rw [h] at hp
  have k := KS.print A c w.heap.size (l.map fun x : Nat => (x : Int)) w (Below.refl _ _) (Nat.le_refl _) (fun z hz => by
    obtain ⟨r, hr, rfl⟩ := List.mem_map.1 hz
    have := h2 r hr
    unfold keyK at this
    omega) (by rw [List.length_map]; omega) hr
  rw [hp, List.length_map] at k
  exact k
set_option maxHeartbeats 4000000 in
theorem keysBack_walk (w : World) (KS : KeySays w) (A : Option Addr) (c : Nat) (zs : List Int) (hlen : zs.length ≤ maxLen) (hz : ∀ z ∈ zs, -2147483648 ≤ z ∧ z ≤ 2147483647) (row : Row w w.heap.size A (zs.map runz)) (S : List UInt8) (hS : S.length ≤ maxLen) :
    Calls Tryd.prog 6 #[.slice A zs.length c, .string ⟨S.toArray⟩] w fun e w' => e = .returned (.bool true) ∧ Below w.heap.size w w' := by
  have HK := Lib.hid KS
  have HZ := Lib.hid hz
  have hlen' := hlen
  have hS' := hS
  unfold maxLen at hlen' hS'
  clear KS hz
  by_cases hl : (4096 : Int) < (zs.length : Int)
  · go_enter Tryd.func6, Tryd.ntmps6
    go_wp2_with (go_at_call 10; refine (aliveK_any _ HK.out).mono ?_; rintro e w1 ⟨rfl, b1⟩)
    go_ret
    exact ⟨rfl, b1⟩
  by_cases hs : (4096 : Int) < (S.length : Int)
  · go_enter Tryd.func6, Tryd.ntmps6
    go_wp2_with (go_at_call 10; refine (aliveK_any _ HK.out).mono ?_; rintro e w1 ⟨rfl, b1⟩)
    go_ret
    exact ⟨rfl, b1⟩
  obtain ⟨v, hv⟩ : ∃ v, printA zs = v := ⟨_, rfl⟩
  obtain ⟨T, n⟩ := v
  obtain ⟨v, hq⟩ : ∃ v, parseA S = v := ⟨_, rfl⟩
  obtain ⟨l, m⟩ := v
  have HV := Lib.hid hv
  have HQ := Lib.hid hq
  have HP : Hid (n = 0 → ∀ wz, Below w.heap.size w wz → Calls Tryd.prog 13 #[.string ⟨T.toArray⟩] wz fun e w' => ∃ A c, e = .returned (.tuple #[.slice A zs.length c, .int .i64 0]) ∧ Row w' w'.heap.size A (zs.map runz) ∧ Below wz.heap.size wz w') := by
    show n = 0 → _
    intro hn wz hbz
    have := parse_back (HK.out.at hbz) (zs := zs) (by rw [hv]; exact hn)
    rwa [hv] at this
  clear hv hq
  by_cases hn : n = 0
  · subst hn
    have HP0 := Lib.hid (HP.out rfl)
    by_cases hm : m = 0
    · subst hm
      go_enter Tryd.func6, Tryd.ntmps6
      go_wp2_with (first
        | (go_at_call 10; refine (aliveK_any _ HK.out).mono ?_; rintro e w1 ⟨rfl, b1⟩; have B1 := Lib.hid b1; clear b1)
        | (go_at_call_of 11 zs; refine (HK.out.print A c w.heap.size zs _ B1.out B1.out.size HZ.out (by omega) (row.below B1.out)).mono ?_; rw [HV.out]; rintro e w2 ⟨rfl, b2⟩; have B2 := Lib.hid (B1.out.trans (b2.mono B1.out.size)); clear b2)
        | (go_at_call_of 13 T; refine (HP0.out _ B2.out).mono ?_; rintro e w3 ⟨A3, c3, rfl, r3, b3⟩; have R3 := Lib.hid r3; have B3 := Lib.hid (B2.out.trans (b3.mono B2.out.size)); clear b3 r3)
        | (go_at_call 15; refine (refKSame_any A3 A c3 c _ zs zs (by omega) (by omega) _ (Nat.le_refl _) R3.out ((row.below B3.out).more B3.out.size)).mono ?_; rw [decide_eq_true rfl]; rintro e w4 ⟨rfl, b4⟩; have B4 := Lib.hid (B3.out.trans (b4.mono B3.out.size)); clear b4)
        | (go_at_call_of 13 S; refine (HK.out.parse S _ B4.out (by omega)).mono ?_; rw [HQ.out]; rintro e w5 ⟨A5, c5, rfl, r5, b5⟩; have R5 := Lib.hid r5; have B5 := Lib.hid (B4.out.trans (b5.mono B4.out.size)); clear b5 r5)
        | (go_at_call_of 11 l; refine (print_back (HK.out.at B5.out) HQ.out A5 c5 R5.out).mono ?_; rintro e w6 ⟨rfl, b6⟩; have B6 := Lib.hid (B5.out.trans (b6.mono B5.out.size)); clear b6))
      go_ret
      exact ⟨rfl, B6.out⟩
    · have hm' : (((m : Nat) : Int) == 0) = false := by rw [beq_eq_false_iff_ne]; omega
      go_enter Tryd.func6, Tryd.ntmps6
      go_wp2_with (first
        | (go_at_call 10; refine (aliveK_any _ HK.out).mono ?_; rintro e w1 ⟨rfl, b1⟩; have B1 := Lib.hid b1; clear b1)
        | (go_at_call_of 11 zs; refine (HK.out.print A c w.heap.size zs _ B1.out B1.out.size HZ.out (by omega) (row.below B1.out)).mono ?_; rw [HV.out]; rintro e w2 ⟨rfl, b2⟩; have B2 := Lib.hid (B1.out.trans (b2.mono B1.out.size)); clear b2)
        | (go_at_call_of 13 T; refine (HP0.out _ B2.out).mono ?_; rintro e w3 ⟨A3, c3, rfl, r3, b3⟩; have R3 := Lib.hid r3; have B3 := Lib.hid (B2.out.trans (b3.mono B2.out.size)); clear b3 r3)
        | (go_at_call 15; refine (refKSame_any A3 A c3 c _ zs zs (by omega) (by omega) _ (Nat.le_refl _) R3.out ((row.below B3.out).more B3.out.size)).mono ?_; rw [decide_eq_true rfl]; rintro e w4 ⟨rfl, b4⟩; have B4 := Lib.hid (B3.out.trans (b4.mono B3.out.size)); clear b4)
        | (go_at_call_of 13 S; refine (HK.out.parse S _ B4.out (by omega)).mono ?_; rw [HQ.out]; rintro e w5 ⟨A5, c5, rfl, r5, b5⟩; have B5 := Lib.hid (B4.out.trans (b5.mono B4.out.size)); clear b5 r5))
      go_ret
      exact ⟨rfl, B5.out⟩
  · have hn' : (((n : Nat) : Int) == 0) = false := by rw [beq_eq_false_iff_ne]; omega
    by_cases hm : m = 0
    · subst hm
      go_enter Tryd.func6, Tryd.ntmps6
      go_wp2_with (first
        | (go_at_call 10; refine (aliveK_any _ HK.out).mono ?_; rintro e w1 ⟨rfl, b1⟩; have B1 := Lib.hid b1; clear b1)
        | (go_at_call_of 11 zs; refine (HK.out.print A c w.heap.size zs _ B1.out B1.out.size HZ.out (by omega) (row.below B1.out)).mono ?_; rw [HV.out]; rintro e w2 ⟨rfl, b2⟩; have B2 := Lib.hid (B1.out.trans (b2.mono B1.out.size)); clear b2)
        | (go_at_call_of 13 S; refine (HK.out.parse S _ B2.out (by omega)).mono ?_; rw [HQ.out]; rintro e w5 ⟨A5, c5, rfl, r5, b5⟩; have R5 := Lib.hid r5; have B5 := Lib.hid (B2.out.trans (b5.mono B2.out.size)); clear b5 r5)
        | (go_at_call_of 11 l; refine (print_back (HK.out.at B5.out) HQ.out A5 c5 R5.out).mono ?_; rintro e w6 ⟨rfl, b6⟩; have B6 := Lib.hid (B5.out.trans (b6.mono B5.out.size)); clear b6))
      go_ret
      exact ⟨rfl, B6.out⟩
    · have hm' : (((m : Nat) : Int) == 0) = false := by rw [beq_eq_false_iff_ne]; omega
      go_enter Tryd.func6, Tryd.ntmps6
      go_wp2_with (first
        | (go_at_call 10; refine (aliveK_any _ HK.out).mono ?_; rintro e w1 ⟨rfl, b1⟩; have B1 := Lib.hid b1; clear b1)
        | (go_at_call_of 11 zs; refine (HK.out.print A c w.heap.size zs _ B1.out B1.out.size HZ.out (by omega) (row.below B1.out)).mono ?_; rw [HV.out]; rintro e w2 ⟨rfl, b2⟩; have B2 := Lib.hid (B1.out.trans (b2.mono B1.out.size)); clear b2)
        | (go_at_call_of 13 S; refine (HK.out.parse S _ B2.out (by omega)).mono ?_; rw [HQ.out]; rintro e w5 ⟨A5, c5, rfl, r5, b5⟩; have B5 := Lib.hid (B2.out.trans (b5.mono B2.out.size)); clear b5 r5))
      go_ret
      exact ⟨rfl, B5.out⟩
end Go.Proofs.YtfoncmgcdldkdaaDoor

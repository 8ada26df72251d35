/-
  Each command is told by its keys: layer 11.
-/
import Derived.Test.YtbfedakncdodcaaGrOurs
namespace Go.Proofs.Ytbfedakncdodcaa
open Go.RowKit

set_option maxHeartbeats 2000000 in
theorem gramTold_walk (KS : GramSays) (w : World) (A : Option Addr) (c : Nat) (zs : List Int) (hlen : zs.length ≤ maxLen) (hx : ∀ z ∈ zs, -2147483648 ≤ z ∧ z ≤ 2147483647) (row : Row w w.heap.size A (zs.map runz)) (v : Bool) :
    Calls Try.prog 5 #[.slice A zs.length c, .bool v] w fun e w' => e = .returned (.bool true) ∧ Below w.heap.size w w' := by
  have HK := Lib.hid KS
  have HX := Lib.hid hx
  unfold maxLen at hlen
  clear KS hx
  by_cases hl : (4096 : Int) < (zs.length : Int)
  · go_enter Try.func5, Try.ntmps5
    go_wp2_with (go_at_call 7; refine (aliveG_any HK.out _).mono ?_; rintro e w1 ⟨rfl, b1⟩)
    go_ret
    exact ⟨rfl, b1⟩
  have HW := Lib.hid (parse_okW (v := v) HX.out)
  obtain ⟨q, hq⟩ : ∃ q, parseG zs v = q := ⟨_, rfl⟩
  have HT : Hid (q.2.2 = 1 → (0 ≤ q.1.count ∧ q.1.count ≤ 999) ∧ parseG (tellG q.1) v = (q.1, (tellG q.1).length, 1)) := by
    show q.2.2 = 1 → _
    intro h
    rw [← hq] at h ⊢
    exact parseG_told h
  rw [hq] at HW
  have HQ := Lib.hid hq
  clear hq
  obtain ⟨⟨r, n, vb, m, a⟩, cn, st⟩ := q
  by_cases hs : st = 1
  · subst hs
    obtain ⟨hn, ht⟩ := HT.out rfl
    dsimp only at hn ht
    have HTT := Lib.hid (tell_ok HW.out hn)
    have HP := Lib.hid ht
    clear HT ht
    go_enter Try.func5, Try.ntmps5
    go_upto_region 6 with (first
      | (go_at_call 7; refine (aliveG_any HK.out _).mono ?_; rintro e w1 ⟨rfl, b1⟩)
      | (go_at_call 12; refine (HK.out.parse A c w.heap.size zs v w1 b1.size HX.out (by omega) (row.below b1)).mono ?_; rw [HQ.out]; rintro e w2 ⟨rfl, b2⟩; replace b2 := b1.trans (b2.mono b1.size)))
    have HC := Lib.hid (cmd_stays w2 27 (.int .i32 r) (.int .i64 n) (.int .i32 vb) (.int .i32 m) (.int .i32 a))
    have ba := b2.alloc b2.size (.cells #[.int .i32 r, .int .i64 n, .int .i32 vb, .int .i32 m, .int .i32 a] 27)
    generalize w2.alloc (.cells #[.int .i32 r, .int .i64 n, .int .i32 vb, .int .i32 m, .int .i32 a] 27) = wa at *
    obtain ⟨y0, y1, y2, y3, y4⟩ := HC.out wa (Below.refl _ _)
    have hn0 : ¬ n < 0 := by omega
    have hn9 : ¬ 999 < n := by omega
    go_upto_region 12 with (first
      | (go_at_call 14; refine (ours_any r n vb m a HW.out.reg HW.out.verb HW.out.move HW.out.arg _).mono ?_; rintro e w3 ⟨rfl, b3⟩)
      | (go_at_call 13; refine (refGTell_any r n vb m a HW.out.reg hn HW.out.verb HW.out.move HW.out.arg w3).mono ?_; rintro e w4 ⟨A4, c4, rfl, r4, b4⟩; replace b4 := b3.trans (b4.mono b3.size); have R4 := Lib.hid r4; clear r4)
      | (go_at_call 12; refine (HK.out.parse A4 c4 _ _ v w4 (Nat.le_refl _) HTT.out.2 (by have := HTT.out.1; omega) R4.out).mono ?_; rw [HP.out]; rintro e w5 ⟨rfl, b5⟩; replace b5 := b4.trans (b5.mono b4.size)))
    have HD := Lib.hid (cmd_stays w5 27 (.int .i32 r) (.int .i64 n) (.int .i32 vb) (.int .i32 m) (.int .i32 a))
    have HC2 := Lib.hid (HC.out _ (b5.alloc b5.size (.cells #[.int .i32 r, .int .i64 n, .int .i32 vb, .int .i32 m, .int .i32 a] 27)))
    have bd := (ba.trans (b5.mono ba.size)).alloc (Nat.le_trans ba.size b5.size) (.cells #[.int .i32 r, .int .i64 n, .int .i32 vb, .int .i32 m, .int .i32 a] 27)
    generalize w5.alloc (.cells #[.int .i32 r, .int .i64 n, .int .i32 vb, .int .i32 m, .int .i32 a] 27) = wd at *
    generalize tellG ⟨r, n, vb, m, a⟩ = K at *
    obtain ⟨z0, z1, z2, z3, z4⟩ := HD.out wd (Below.refl _ _)
    clear y0 y1 y2 y3 y4
    obtain ⟨y0, y1, y2, y3, y4⟩ := HC2.out
    go_wp2_with fail
    go_ret
    exact ⟨rfl, bd⟩
  · have hs' : ((st : Int) != 1) = true := by simp; omega
    go_enter Try.func5, Try.ntmps5
    go_wp2_with (first
      | (go_at_call 7; refine (aliveG_any HK.out _).mono ?_; rintro e w1 ⟨rfl, b1⟩)
      | (go_at_call 12; refine (HK.out.parse A c w.heap.size zs v w1 b1.size HX.out (by omega) (row.below b1)).mono ?_; rw [HQ.out]; rintro e w2 ⟨rfl, b2⟩; replace b2 := b1.trans (b2.mono b1.size)))
    go_ret
    exact ⟨rfl, b2.alloc b2.size _⟩
end Go.Proofs.Ytbfedakncdodcaa

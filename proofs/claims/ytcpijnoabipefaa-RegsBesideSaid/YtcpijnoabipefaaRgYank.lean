/-
  The landed Yank: layer 9.
-/
import Derived.Test.YtcpijnoabipefaaRgTo
namespace Go.Proofs.Ytcpijnoabipefaa
open Go.RowKit

theorem GivesR.before {w0 w w' : World} {P : Nat → Prop} {g : Nat} {r : List RegP × Nat} {e : Ending} (h : GivesR w P g r e w') (hb : Below w0.heap.size w0 w) : GivesR w0 P g r e w' := ⟨h.1, h.2.1, (Tch.fresh hb).trans h.2.2⟩
set_option maxHeartbeats 4000000 in
theorem rgYank_any {P : Nat → Prop} {w : World} {g : Nat} {R : List RegP} (h : Rgs w P g R) (n : Int) (hn : -2147483648 ≤ n ∧ n ≤ 2147483647) (A : Option Addr) (c : Nat) (S : List UInt8) (l : List RunP) (b : Bool) (hx : Txu w A S l) :
    Calls Try.prog 19 #[.pointer (some ⟨g, 0, none⟩), .int .i32 n, .agg #[.string ⟨S.toArray⟩, .slice A l.length c, .bool b]] w (GivesR w P g (yankR R n S l b)) := by
  have K := Lib.hid ((boxN w #[.string ⟨S.toArray⟩, .slice A l.length c, .bool b] 33).and (((grow_txu hx).and h.grow).alloc _))
  clear h hx
  go_enter Try.func19, Try.ntmps19
  go_upto_region 1 with fail
  generalize w.alloc (.cells #[.string ⟨S.toArray⟩, .slice A l.length c, .bool b] 33) = wb at *
  obtain ⟨y0, y1, y2⟩ := en_cells K.out.now.1.1
  go_upto_region 2 with (go_at_call 22; refine (rgCheck_any K.out.now.2.2 n A c S l b K.out.now.2.1).mono ?_; rintro e w1 ⟨rfl, bb⟩; replace K := Lib.hid (K.out.step bb); clear y0 y1 y2 bb)
  obtain ⟨y0, y1, y2⟩ := en_cells K.out.now.1.1
  by_cases hc : checkR n S l = 0
  · obtain ⟨hm, hg⟩ := checkR_good hc
    rw [hc]
    by_cases hl : letN n = true
    · have HR : Hid (yankR R n S l b = letterR R n S l b) := (if_pos hc).trans (if_pos hl)
      go_wp2_with (first
        | (go_at_call 33; refine (rgLetter_any n _).mono ?_; rw [hl]; rintro e w' ⟨rfl, hw⟩; subst w')
        | (go_at_call 34; refine (rgTo_any K.out.now.2.2 n hn hl A c S l b K.out.now.2.1 hg).mono ?_; rintro e w' ⟨rfl, hr, ht⟩))
      go_ret
      exact ⟨by rw [HR.out]; rfl, by rw [HR.out]; exact hr, (Tch.fresh K.out.now.1.2).trans ht⟩
    · have hl' : letN n = false := by simpa using hl
      by_cases h95 : n = 95
      · have HR : Hid (yankR R n S l b = (R, 0)) := (if_pos hc).trans ((if_neg hl).trans (if_pos h95))
        subst h95
        clear hl hc
        go_wp2_with (go_at_call 33; refine (rgLetter_any _ _).mono ?_; rw [hl']; rintro e w' ⟨rfl, hw⟩; subst w')
        go_ret
        exact ⟨by rw [HR.out]; rfl, by rw [HR.out]; exact K.out.now.2.2, Tch.fresh K.out.now.1.2⟩
      · have HR : Hid (yankR R n S l b = (put2 R 26 37 ⟨true, S, l, b⟩, 0)) := (if_pos hc).trans ((if_neg hl).trans (if_neg h95))
        have e95 : (n != 95) = true := by simpa using h95
        clear hl hc
        go_wp2_with (first
          | (go_at_call 33; refine (rgLetter_any n _).mono ?_; rw [hl']; rintro e w' ⟨rfl, hw⟩; subst w')
          | (go_at_call 23; refine (store_two (c := c) (b := b) K.out.now.2.2 K.out.now.2.1 hg 26 37 (by decide) (by decide)).mono ?_; rintro e w3 ⟨rfl, hr, ht⟩))
        go_ret
        exact ⟨by rw [HR.out]; rfl, by rw [HR.out]; exact hr, (Tch.fresh K.out.now.1.2).trans ht⟩
  · have HR : Hid (yankR R n S l b = (R, 2)) := if_neg hc
    have h2 : checkR n S l = 2 := by
      unfold checkR at hc ⊢
      split at hc
      · exact absurd rfl hc
      · next h => rw [if_neg h]
    rw [h2]
    clear hc h2
    go_wp2_with fail
    go_ret
    exact ⟨by rw [HR.out]; rfl, by rw [HR.out]; exact K.out.now.2.2, Tch.fresh K.out.now.1.2⟩
end Go.Proofs.Ytcpijnoabipefaa

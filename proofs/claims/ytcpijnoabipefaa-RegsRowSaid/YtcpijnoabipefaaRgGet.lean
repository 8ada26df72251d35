/-
  The landed Get: layer 9.
-/
import Derived.Test.YtcpijnoabipefaaRgCheck
namespace Go.Proofs.Ytcpijnoabipefaa
open Go.RowKit

def getR (R : List RegP) (n : Int) : RegP × Nat :=
  if plN n = -1 then (zeroR, 2) else if (atR R (plN n).toNat).full = false then (zeroR, 6) else (atR R (plN n).toNat, 0)
/-- an entry and a number, the entry's runs in new memory -/
def GivesG (w : World) (r : RegP × Nat) (e : Ending) (w' : World) : Prop :=
  ∃ A c, e = .returned (.tuple #[.agg #[.string ⟨r.1.S.toArray⟩, .slice A r.1.l.length c, .bool r.1.lines], .int .i64 (r.2 : Nat)]) ∧ w'.ownsRow w.heap.size 58 2 (.slice A r.1.l.length c) r.1.l.length (flatR r.1.l) ∧ Below w.heap.size w w'
theorem givesG_none {w w' : World} (k : Nat) (hb : Below w.heap.size w w') : GivesG w (zeroR, k) (.returned (.tuple #[.agg #[.string ⟨#[]⟩, .slice none 0 0, .bool false], .int .i64 (k : Nat)])) w' :=
  ⟨none, 0, rfl, World.ownsRow_nil _ _ _ _, hb⟩
theorem RowG.three {w : World} {b g : Nat} {A : Option Addr} {xs : List Value} (h : RowG w b A xs) (hg : g < b) (v x y : Value) :
    RowG (((w.setCell ⟨g, 0, none⟩ v).setCell ⟨g, 1, none⟩ x).setCell ⟨g, 2, none⟩ y) b A xs := ((h.set hg 0 v).set hg 1 x).set hg 2 y
theorem below_three {w0 w : World} {B g : Nat} (h : Below B w0 w) (hg : B ≤ g) (v x y : Value) : Below B w0 (((w.setCell ⟨g, 0, none⟩ v).setCell ⟨g, 1, none⟩ x).setCell ⟨g, 2, none⟩ y) :=
  ((h.setCell (p := ⟨g, 0, none⟩) hg v).setCell (p := ⟨g, 1, none⟩) hg x).setCell (p := ⟨g, 2, none⟩) hg y
theorem goodT_runs {S : List UInt8} {l : List RunP} (h : goodT S l = true) : S.length ≤ 4096 ∧ l.length ≤ 4096 := by
  have h1 := (goodT_iff S l).1 h
  have h2 := goodT_size h
  have h3 := pack_len (bytesOf l)
  rw [goodB_eq h1.1] at h3
  omega

set_option maxHeartbeats 2000000 in
theorem rgGet_any {P : Nat → Prop} {w : World} {g : Nat} {R : List RegP} (h : Rgs w P g R) (n : Int) (hn : -2147483648 ≤ n ∧ n ≤ 2147483647) :
    Calls Try.prog 12 #[.pointer (some ⟨g, 0, none⟩), .int .i32 n] w (GivesG w (getR R n)) := by
  have K := Lib.hid ((boxN w #[.string ⟨#[]⟩, .slice none 0 0, .bool false] 33).and (h.grow.alloc _))
  have hok := Lib.hid h.ok
  clear h
  go_enter Try.func12, Try.ntmps12
  go_upto_region 1 with fail
  generalize w.alloc (.cells #[.string ⟨#[]⟩, .slice none 0 0, .bool false] 33) = wb at *
  obtain ⟨⟨y0, y1, y2⟩, f0, f1, f2⟩ := en_var K.out.now.1.1
  by_cases hp : plN n = -1
  · have HR : Hid (getR R n = (zeroR, 2)) := if_pos hp
    go_wp2_with (first
      | (go_at_call 26; refine (rgUsable_any K.out.now.2).mono ?_; rintro e w' ⟨rfl, hw⟩; subst w')
      | (go_at_call 27; refine (rgPlace_any n hn _).mono ?_; rw [hp]; rintro e w' ⟨rfl, hw⟩; subst w'))
    refine ret_entry rfl _ _ w.heap.size _ _ _ rfl (blk_three K.out.now.1.1 _ _ _) rfl ?_
    rw [HR.out]
    exact givesG_none 2 (below_three K.out.now.1.2 (Nat.le_refl _) _ _ _)
  · have hr : 0 ≤ plN n ∧ plN n ≤ 37 := by rcases plN_range n with h | h <;> omega
    obtain ⟨p, hpp⟩ : ∃ p : Nat, plN n = (p : Int) := ⟨(plN n).toNat, by omega⟩
    have hp38 : p < 38 := by omega
    have e1 : ((p : Int) == -1) = false := by rw [beq_eq_false_iff_ne]; omega
    have hx0 : (0 : Int) ≤ (p : Int) := by omega
    have hx1 : (p : Int) < 38 := by omega
    obtain ⟨A, c, G⟩ := K.out.now.2.one hp38
    obtain ⟨⟨z0, z1, z2, z3⟩, zt⟩ := G.now
    have ZT := Lib.hid zt
    clear zt G
    have HG : getR R n = if (atR R p).full = false then (zeroR, 6) else (atR R p, 0) := by unfold getR; rw [if_neg hp, hpp, Int.toNat_natCast]
    have hl : (atR R p).l.length ≤ 1000000 := by have := (goodT_runs (atR_ok hok.out hp38).1).2; omega
    by_cases hfull : (atR R p).full = false
    · have HR : Hid (getR R n = (zeroR, 6)) := HG.trans (if_pos hfull)
      rw [hfull] at z0
      clear hfull HG hp
      go_wp2_with (first
        | (go_at_call 26; refine (rgUsable_any K.out.now.2).mono ?_; rintro e w' ⟨rfl, hw⟩; subst w')
        | (go_at_call 27; refine (rgPlace_any n hn _).mono ?_; rw [hpp]; rintro e w' ⟨rfl, hw⟩; subst w'))
      refine ret_entry rfl _ _ w.heap.size _ _ _ rfl (blk_three K.out.now.1.1 _ _ _) rfl ?_
      rw [HR.out]
      exact givesG_none 6 (below_three K.out.now.1.2 (Nat.le_refl _) _ _ _)
    · have HR : Hid (getR R n = (atR R p, 0)) := HG.trans (if_neg hfull)
      rw [Bool.not_eq_false] at hfull
      rw [hfull] at z0
      clear hfull HG hp
      generalize atR R p = r at *
      have hlt : w.heap.size < wb.heap.size := K.out.now.1.1.lt
      go_wp2_with (first
        | (go_at_call 26; refine (rgUsable_any K.out.now.2).mono ?_; rintro e w' ⟨rfl, hw⟩; subst w')
        | (go_at_call 27; refine (rgPlace_any n hn _).mono ?_; rw [hpp]; rintro e w' ⟨rfl, hw⟩; subst w')
        | (go_at_call 28; refine (rgCopied_any A c r.S r.l r.lines hl _ ZT.out.txu).mono ?_; rintro e w3 ⟨A3, c3, rfl, own3, bb⟩; replace K := Lib.hid (K.out.step bb); have O3 := Lib.hid own3; clear own3 y0 y1 y2 f0 f1 f2; obtain ⟨⟨y0, y1, y2⟩, f0, f1, f2⟩ := en_var K.out.now.1.1))
      refine ret_entry rfl _ _ w.heap.size _ _ _ rfl (blk_three K.out.now.1.1 _ _ _) rfl ?_
      rw [HR.out]
      exact ⟨A3, c3, rfl, own_base (own_away (own_away (own_away O3.out (p := ⟨w.heap.size, 0, none⟩) hlt _) (p := ⟨w.heap.size, 1, none⟩) hlt _) (p := ⟨w.heap.size, 2, none⟩) hlt _) (by omega), below_three K.out.now.1.2 (Nat.le_refl _) _ _ _⟩
end Go.Proofs.Ytcpijnoabipefaa

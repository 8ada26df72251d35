/-
  Lines down, and up again: layer 12.
-/
import Derived.Test.YtckikigjleckeaaMvLawA
namespace Go.Proofs.Ytckikigjleckeaa
open Go.RowKit

theorem of_place {S : List UInt8} {t : Nat} (ht : t < countL S) (c : Int) : ofL S (placeL S (t : Nat) c : Nat) = t := by
  have hb : broughtL S (t : Nat) = t := by unfold broughtL; omega
  rw [placeL_eq, hb]
  obtain ⟨A, C, h1, h2, h3, _⟩ := line_signs ht
  refine of_line ht (by omega) ?_
  have := width_le_take (signsL S t) (min c.toNat ((signsL S t).length - 1))
  omega
theorem toM_j (S : List UInt8) (p g c : Int) : toM S p 106 g c = (linesM S (alignM S p) (manyM c) 106 c).map fun x => (x, 2) := rfl
theorem toM_k (S : List UInt8) (p g c : Int) : toM S p 107 g c = (linesM S (alignM S p) (manyM c) 107 c).map fun x => (x, 2) := rfl
theorem lines_none {S : List UInt8} {p c : Int} (h : countL S ≤ ofL S (alignM S p : Nat) + manyM c) : toM S p 106 0 c = none := by
  rw [toM_j]
  have hl : lineM S (alignM S p) (manyM c) 106 c = (ofL S (alignM S p : Nat) : Int) + (manyM c : Nat) := by unfold lineM; rw [if_pos rfl]
  unfold linesM
  rw [hl, if_neg (by omega)]
  rfl
theorem lines_some {S : List UInt8} {p c : Int} (h : ofL S (alignM S p : Nat) + manyM c < countL S) : ∃ x y, toM S p 106 0 c = some (x, 2) ∧ ofL S (x : Nat) = ofL S (alignM S p : Nat) + manyM c ∧ x ≤ S.length ∧ toM S (x : Nat) 107 0 c = some (y, 2) ∧ ofL S (y : Nat) = ofL S (alignM S p : Nat) := by
  have hl : lineM S (alignM S p) (manyM c) 106 c = ((ofL S (alignM S p : Nat) + manyM c : Nat) : Int) := by unfold lineM; rw [if_pos rfl]; omega
  have h1 : toM S p 106 0 c = some (placeL S ((ofL S (alignM S p : Nat) + manyM c : Nat) : Int) (colM S (alignM S p : Nat) : Nat), 2) := by
    rw [toM_j]
    unfold linesM
    rw [hl, if_pos ⟨by omega, by omega⟩, if_pos (Or.inl rfl)]
    rfl
  have ho := of_place (S := S) h (colM S (alignM S p : Nat) : Nat)
  generalize placeL S ((ofL S (alignM S p : Nat) + manyM c : Nat) : Int) (colM S (alignM S p : Nat) : Nat) = x at h1 ho
  have hb := (toM_within h1).1
  have hl2 : lineM S x (manyM c) 107 c = ((ofL S (alignM S p : Nat) : Nat) : Int) := by
    unfold lineM
    rw [if_neg (by decide), if_pos rfl, ho]
    omega
  refine ⟨x, _, h1, ho, hb.le, ?_, of_place (by omega) (colM S (x : Nat) : Nat)⟩
  rw [toM_k, hb.align]
  unfold linesM
  rw [hl2, if_pos ⟨by omega, by omega⟩, if_pos (Or.inr rfl)]
  rfl
set_option maxHeartbeats 4000000 in
theorem moveLines_walk (w : World) (KS : MoveSays w) (S : List UInt8) (hS : S.length ≤ maxLen) (p : Int) (hp : -9223372036854775808 ≤ p ∧ p ≤ 9223372036854775807) (c : Int) (hc : -9223372036854775808 ≤ c ∧ c ≤ 9223372036854775807) :
    Calls Try.prog 7 #[.string ⟨S.toArray⟩, .int .i64 p, .int .i64 c] w fun e w' => e = .returned (.bool true) ∧ Below w.heap.size w w' := by
  have HK := Lib.hid KS
  have hS' := hS
  unfold maxLen at hS'
  clear KS
  by_cases hl : (1024 : Int) < (S.length : Int)
  · go_enter Try.func7, Try.ntmps7
    go_wp2_with (go_at_call 9; refine (aliveM_any _ HK.out).mono ?_; rintro e w1 ⟨rfl, b1⟩)
    go_ret
    exact ⟨rfl, b1⟩
  have hof := ofL_le S (alignM S p : Nat)
  have hcl := countL_le S
  have hnb := many_pos c
  have hN := manyM_if c
  have H1 := Lib.hid (lines_none (S := S) (p := p) (c := c))
  have H2 := Lib.hid (lines_some (S := S) (p := p) (c := c))
  obtain ⟨q, hq⟩ : ∃ q, ofL S (alignM S p : Nat) = q := ⟨_, rfl⟩
  obtain ⟨a, ha⟩ : ∃ a, alignM S p = a := ⟨_, rfl⟩
  obtain ⟨m, hm⟩ : ∃ m, countL S = m := ⟨_, rfl⟩
  rw [hq, hm] at H1 H2
  rw [hq, hm] at hof
  rw [hm] at hcl
  rw [ha] at hq
  have HA := Lib.hid ha
  have HM := Lib.hid hm
  have HQ := Lib.hid hq
  clear ha hm hq
  have HN := Lib.hid hN
  clear hN
  generalize manyM c = n at *
  have T1 : Hid (∀ wz, Below w.heap.size w wz → Calls Try.prog 10 #[.string ⟨S.toArray⟩, .int .i64 p, .agg #[.int .i32 106, .int .i32 0, .int .i64 c]] wz (GivesIIB wz (toM S p 106 0 c))) := fun wz hb => HK.out.to_ S p 106 0 c wz hb (by omega) hp (by decide) (by decide) hc
  by_cases hlt : q + n < m
  · obtain ⟨x, y, t1, t2, t3, t4, t5⟩ := H2.out hlt
    have T2 : Hid (∀ wz, Below w.heap.size w wz → Calls Try.prog 10 #[.string ⟨S.toArray⟩, .int .i64 (x : Nat), .agg #[.int .i32 107, .int .i32 0, .int .i64 c]] wz (GivesIIB wz (some (y, 2)))) := fun wz hb => by
      have := HK.out.to_ S (x : Nat) 107 0 c wz hb (by omega) (by omega) (by decide) (by decide) hc
      rwa [t4] at this
    rw [t1] at T1
    have O1 := Lib.hid t2
    have O2 := Lib.hid t5
    clear t1 t2 t4 t5 H1 H2
    have hlt' : (q : Int) + (n : Int) < (m : Int) := by omega
    go_enter Try.func7, Try.ntmps7
    go_upto_region 6 with (go_at_call 9; refine (aliveM_any _ HK.out).mono ?_; rintro e w1 ⟨rfl, b1⟩)
    rw [HN.out]
    generalize (if c < 1 then (1 : Int) else c) = cm at *
    clear HN
    have e7 : (((q + n : Nat) : Int) == (q : Int) + (n : Int)) = true := by rw [beq_iff_eq]; omega
    have e8 : ((q : Int) == (q : Int)) = true := by simp
    go_wp2_with (first
      | (go_at_call 14; refine use_factM b7 ?_; intro _; refine (refOf_any S (by omega) (y : Nat) _).mono ?_; rw [O2.out]; rintro e w8 ⟨rfl, b8⟩; replace b8 := b7.trans (b8.mono b7.size))
      | (go_at_call 14; refine use_factM b6 ?_; intro _; refine (refOf_any S (by omega) (x : Nat) _).mono ?_; rw [O1.out]; rintro e w7 ⟨rfl, b7⟩; replace b7 := b6.trans (b7.mono b6.size))
      | (go_at_call 10; refine use_factM b5 ?_; intro _; refine (T2.out _ b5).mono ?_; rintro e w6 ⟨rfl, b6⟩; replace b6 := b5.trans (b6.mono b5.size))
      | (go_at_call 16; refine (refCount_any S (by omega) _).mono ?_; rw [HM.out]; rintro e w5 ⟨rfl, b5⟩; replace b5 := b4.trans (b5.mono b4.size))
      | (go_at_call 10; refine (T1.out _ b3).mono ?_; rintro e w4 ⟨rfl, b4⟩; replace b4 := b3.trans (b4.mono b3.size))
      | (go_at_call 14; refine (refOf_any S (by omega) (a : Nat) _).mono ?_; rw [HQ.out]; rintro e w3 ⟨rfl, b3⟩; replace b3 := b2.trans (b3.mono b2.size))
      | (go_at_call 12; refine (refMAlign S (by omega) p _).mono ?_; rw [HA.out]; rintro e w2 ⟨rfl, b2⟩; replace b2 := b1.trans (b2.mono b1.size)))
    go_ret
    exact ⟨by first | rfl | simp, b8⟩
  · rw [H1.out (by omega)] at T1
    have hlt' : ¬ (q : Int) + (n : Int) < (m : Int) := by omega
    clear H1 H2
    go_enter Try.func7, Try.ntmps7
    go_upto_region 6 with (go_at_call 9; refine (aliveM_any _ HK.out).mono ?_; rintro e w1 ⟨rfl, b1⟩)
    rw [HN.out]
    generalize (if c < 1 then (1 : Int) else c) = cm at *
    clear HN
    go_wp2_with (first
      | (go_at_call 16; refine (refCount_any S (by omega) _).mono ?_; rw [HM.out]; rintro e w5 ⟨rfl, b5⟩; replace b5 := b4.trans (b5.mono b4.size))
      | (go_at_call 10; refine (T1.out _ b3).mono ?_; rintro e w4 ⟨rfl, b4⟩; replace b4 := b3.trans (b4.mono b3.size))
      | (go_at_call 14; refine (refOf_any S (by omega) (a : Nat) _).mono ?_; rw [HQ.out]; rintro e w3 ⟨rfl, b3⟩; replace b3 := b2.trans (b3.mono b2.size))
      | (go_at_call 12; refine (refMAlign S (by omega) p _).mono ?_; rw [HA.out]; rintro e w2 ⟨rfl, b2⟩; replace b2 := b1.trans (b2.mono b1.size)))
    go_ret
    exact ⟨by first | rfl | simp, b5⟩
end Go.Proofs.Ytckikigjleckeaa

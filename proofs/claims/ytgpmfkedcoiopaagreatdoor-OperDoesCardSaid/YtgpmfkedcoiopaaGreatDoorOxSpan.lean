/-
  The landed Span: layer 14.
-/
import Derived.Test.YtgpmfkedcoiopaaGreatDoorM14a
import Derived.Test.YtgpmfkedcoiopaaGreatDoorGlyFirst
import Derived.Test.YtgpmfkedcoiopaaGreatDoorM06l
import Derived.Test.YtgpmfkedcoiopaaGreatDoorM12r
namespace Go.Proofs.YtgpmfkedcoiopaaGreatDoor
open Go.RowKit
set_option maxRecDepth 100000

theorem oxAlign_any (S : List UInt8) (hs : S.length ≤ 1000000) (p : Int) (w : World) : Calls Tryz.prog 40 #[.string ⟨S.toArray⟩, .int .i64 p] w fun e w' => e = .returned (.int .i64 (alignM S p : Nat)) ∧ Below w.heap.size w w' :=
  (glyAlign_any S p w hs).mono fun e w' ⟨i, he, hi, hb⟩ => ⟨by rw [he, hi.unique (which_is _ _)]; rfl, hb⟩
theorem oxNext_any (S : List UInt8) (hs : S.length ≤ 1000000) (p : Int) (w : World) : Calls Tryz.prog 42 #[.string ⟨S.toArray⟩, .int .i64 p] w fun e w' => e = .returned (.int .i64 (nextM S p : Nat)) ∧ Below w.heap.size w w' :=
  (glyNext_any S p w hs).mono fun e w' ⟨i, he, hi, hb⟩ => ⟨by rw [he, hi.unique (which_is _ _)]; rfl, hb⟩
theorem rangeX_facts : (∃ fs, Tryz.prog.underlying 25 = some (.struct fs)) ∧ (Tryz.prog.info? 25).map (·.size) = some 3 := ⟨⟨_, Tryz.underlying25⟩, by kernel_rfl⟩
theorem ret_rangeX {fn : Func} {p : Tmp} (h : fn.results = #[.cell p 25]) (a : Act) (w : World) (g : Nat) (x y z : Value) (hp : a.tmps.getD p undef = .pointer (some ⟨g, 0, none⟩)) (hg : Blk w g 25 #[x, y, z]) (hd : a.defers = [])
    {Q : Ending → World → Prop} (hQ : Q (.returned (.agg #[x, y, z])) w) : bodyPost Tryz.prog fn Q .ret a w := by
  obtain ⟨⟨fs, hu⟩, hi⟩ := rangeX_facts
  exact bodyPost_ret (results_cell_row h a.tmps w g 25 #[x, y, z] (0, 0) _ hp hg hu rfl hi) hd hQ
set_option maxHeartbeats 4000000 in
theorem oxSpan_any (S : List UInt8) (hS : S.length ≤ 1000000) (p q kind : Int) (w : World) :
    Calls Tryz.prog 13 #[.string ⟨S.toArray⟩, .int .i64 p, .int .i64 q, .int .i64 kind] w fun e w' => e = .returned (.agg #[.int .i64 (spanM S p q kind).1, .int .i64 (spanM S p q kind).2.1, .bool (spanM S p q kind).2.2]) ∧ Below w.heap.size w w' := by
  have HA := Lib.hid (fun wx => oxAlign_any S hS p wx)
  have HB := Lib.hid (fun wx => oxAlign_any S hS q wx)
  have ha := alignM_le S p
  have hb := alignM_le S q
  obtain ⟨v, hv⟩ : ∃ v, spanM S p q kind = v := ⟨_, rfl⟩
  rw [hv]
  unfold spanM at hv
  generalize alignM S p = a at *
  generalize alignM S q = b at *
  have b0 : Below w.heap.size w (w.alloc (.cells #[.int .i64 0, .int .i64 0, .bool false] 25)) := (Below.refl _ w).alloc (Nat.le_refl _) _
  have K := Lib.hid ((grow_blk (Blk.new w 25 #[.int .i64 0, .int .i64 0, .bool false])).and (grow_bel b0))
  clear b0
  obtain ⟨x, hx⟩ : ∃ x, min a b = x := ⟨_, rfl⟩
  obtain ⟨y, hy⟩ : ∃ y, max a b = y := ⟨_, rfl⟩
  rw [hx, hy] at hv
  have HV := Lib.hid hv
  clear hv
  have hx2 : ∀ (i : Decidable (b < a)), (@ite Int (b < a) i (b : Int) (a : Int)) = (x : Int) := fun i => by split <;> omega
  have hy1 : ∀ (i : Decidable (a < b)), (@ite Int (a < b) i (b : Int) (a : Int)) = (y : Int) := fun i => by split <;> omega
  have HX := Lib.hid (fun wx => linOf_any S hS (x : Nat) wx)
  have HY := Lib.hid (fun wx => linOf_any S hS (y : Nat) wx)
  have HN := Lib.hid (fun wx => oxNext_any S hS (y : Nat) wx)
  go_enter Tryz.func13, Tryz.ntmps13
  go_upto_region 1 with fail
  generalize w.alloc (.cells #[.int .i64 0, .int .i64 0, .bool false] 25) = wa at *
  go_upto_region 3 with (first
    | (go_at_call 40; refine use_factO b1 ?_; intro _; refine (HB.out _).mono ?_; rintro e w2 ⟨rfl, b2⟩; replace K := Lib.hid (K.out.step b2))
    | (go_at_call 40; refine (HA.out _).mono ?_; rintro e w1 ⟨rfl, b1⟩; replace K := Lib.hid (K.out.step b1)))
  clear hx2 hy1 hx hy ha hb b1
  obtain ⟨⟨r0, r1, r2, r3, r4, r5⟩, _⟩ := rng_var K.out.now.1
  by_cases h2 : kind = 2
  · subst h2
    have HV2 := Lib.hid (HV.out.symm.trans (if_pos rfl))
    clear HV
    go_wp2_with (first
      | (go_at_call 41; refine use_factO b3 ?_; intro _; refine (HY.out _).mono ?_; rintro e w4 ⟨rfl, b4⟩; replace K := Lib.hid (K.out.step b4); clear r0 r1 r2 r3 r4 r5; obtain ⟨⟨r0, r1, r2, r3, r4, r5⟩, _⟩ := rng_var K.out.now.1)
      | (go_at_call 41; refine (HX.out _).mono ?_; rintro e w3 ⟨rfl, b3⟩; replace K := Lib.hid (K.out.step b3)))
    obtain ⟨_, BV⟩ := rng_var K.out.now.1
    refine ret_rangeX rfl _ _ w.heap.size _ _ _ rfl (BV _ _ _) rfl ?_
    rw [HV2.out]
    exact ⟨rfl, set_three K.out.now.2 _ _ _⟩
  · have HV1 := Lib.hid (HV.out.symm.trans (if_neg h2))
    clear HV
    have h2' : (kind == 2) = false := by rw [beq_eq_false_iff_ne]; exact h2
    by_cases h1 : kind = 1
    · subst h1
      have HV2 := Lib.hid (HV1.out.trans (if_pos rfl))
      go_wp2_with (go_at_call 42; refine (HN.out _).mono ?_; rintro e w3 ⟨rfl, b3⟩; replace K := Lib.hid (K.out.step b3); clear r0 r1 r2 r3 r4 r5; obtain ⟨⟨r0, r1, r2, r3, r4, r5⟩, _⟩ := rng_var K.out.now.1)
      obtain ⟨_, BV⟩ := rng_var K.out.now.1
      refine ret_rangeX rfl _ _ w.heap.size _ _ _ rfl (BV _ _ _) rfl ?_
      rw [HV2.out]
      exact ⟨rfl, set_three K.out.now.2 _ _ _⟩
    · have HV2 := Lib.hid (HV1.out.trans (if_neg h1))
      have h1' : (kind == 1) = false := by rw [beq_eq_false_iff_ne]; exact h1
      go_wp2_with fail
      obtain ⟨_, BV⟩ := rng_var K.out.now.1
      refine ret_rangeX rfl _ _ w.heap.size _ _ _ rfl (BV _ _ _) rfl ?_
      rw [HV2.out]
      exact ⟨rfl, set_three K.out.now.2 _ _ _⟩
end Go.Proofs.YtgpmfkedcoiopaaGreatDoor

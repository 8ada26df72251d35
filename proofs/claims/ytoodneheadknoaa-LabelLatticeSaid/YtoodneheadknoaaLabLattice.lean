/-
  For all labels joins and meets keep the laws of a lattice, and the order is theirs.
  No condition.
-/
import Derived.Test.YtoodneheadknoaaLabAlive
namespace Go.Proofs.Ytoodneheadknoaa.labelLattice
open Go.ChangeShapes Go.WideShapes Go.ChangeAt Go.RowKit

theorem ne_false {x y : Nat} (h : x = y) : ((x : Int) != (y : Int)) = false := by subst h; simp
theorem or_eq_sub (a b : Nat) : (((a ||| b : Nat) : Int) == (b : Int)) = subB a b := by
  unfold subB
  rw [Bool.eq_iff_iff, beq_iff_eq, beq_iff_eq]
  constructor
  · intro h
    have h' : a ||| b = b := by omega
    have : a &&& b = a := by rw [← h']; exact Nat.eq_of_testBit_eq (fun i => by simp; intro hh; simp [hh])
    rw [this]
  · intro h
    have h' : a &&& b = a := by omega
    have : a ||| b = b := by
      refine Nat.eq_of_testBit_eq (fun i => ?_)
      have hi : (a &&& b).testBit i = a.testBit i := by rw [h']
      simp at hi ⊢
      intro hh; exact hi hh
    rw [this]

set_option maxHeartbeats 1000000 in
theorem walk (w : World) (a : Nat) (ha : a < 18446744073709551616) (b : Nat) (hb : b < 18446744073709551616) (c : Nat) (hc : c < 18446744073709551616) :
    Calls Try.prog 7 #[.int .u64 a, .int .u64 b, .int .u64 c] w fun e w' => e = .returned (.bool true) ∧ Below w.heap.size w w' := by
  have e1 := ne_false (Nat.or_comm a b)
  have e2 := ne_false (Nat.and_comm a b)
  have e3 := ne_false (Nat.or_assoc a b c)
  have e4 := ne_false (Nat.and_assoc a b c)
  have e5 : (((a ||| (a &&& b) : Nat) : Int) != (a : Int)) = false := ne_false (Nat.eq_of_testBit_eq (fun i => by simp; intro h _; exact h))
  have e6 : (((a &&& (a ||| b) : Nat) : Int) != (a : Int)) = false := ne_false (Nat.eq_of_testBit_eq (fun i => by simp; intro h; simp [h]))
  have e7 := or_eq_sub a b
  have e8 : (((a &&& b : Nat) : Int) == (a : Int)) = subB a b := rfl
  go_enter Try.func7, Try.ntmps7
  go_wp2_with (first
    | (go_at_call 10; refine (alive_any _).mono ?_; rintro e w1 ⟨rfl, hb1⟩)
    | (go_at_call 11; refine (join_any _ _ (by repeat (first | assumption | apply or_lt | apply and_lt)) (by repeat (first | assumption | apply or_lt | apply and_lt)) _).mono ?_; rintro e w2 ⟨rfl, rfl⟩)
    | (go_at_call 13; refine (meet_any _ _ (by repeat (first | assumption | apply or_lt | apply and_lt)) (by repeat (first | assumption | apply or_lt | apply and_lt)) _).mono ?_; rintro e w2 ⟨rfl, rfl⟩)
    | (go_at_call 15; refine (below_any _ _ (by assumption) (by assumption) _).mono ?_; rintro e w2 ⟨rfl, rfl⟩))
  go_ret
  exact ⟨rfl, hb1⟩

theorem own : ownKnob Try.prog.godebug = none := by kernel_rfl
theorem laidOut : laidOutB Try.prog = true := by kernel_rfl
theorem readable0 : Try.prog.readableRec 23 = true ∧ 23 < Try.prog.types.size := ⟨by kernel_rfl, of_decide_eq_true (by kernel_rfl)⟩
theorem readable : ∀ t ∈ Try.f7.params.toList, Try.prog.readableRec t = true ∧ t < Try.prog.types.size := by
  rw [Try.params7]
  intro t ht
  obtain rfl : t = 23 := by simpa using ht
  exact readable0

theorem contract (H : Type) (enc : TypeId × Value → H) (W : World) (base : Nat) (args : Array Value) (ds gs : List (DataW H)) (before : List MemPlace)
    (hval : ∀ (j : Nat) t v, Try.f7.params[j]? = some t → args[j]? = some v → Value.okWide Try.prog W .any base t v)
    (hW : DataW.Whole enc Try.prog Try.f7.params.toList Rows.labelLatticeSpec.vars false W args.toList ds gs before) :
    Calls Try.prog 7 args W fun e W' => ∃ v, e = .returned v ∧ Rows.labelLatticeSpec.post enc Try.prog Try.f7 false true false false W args v W' := by
  have hW' := hW
  have hlt := hW.lt
  obtain ⟨p, q, hA0, hV, rfl, hfz, hnd⟩ := hW
  have hA : DataW.TrodAll enc Try.prog W 0 (fun _ => true) true Try.f7.params.toList args.toList ds p := hA0
  rw [Try.params7] at hA hval
  obtain ⟨v0, vs0, d0, ds0, p0, q0, hargs0, rfl, rfl, h0, r0⟩ := trodAll_cons hA
  obtain ⟨v1, vs1, d1, ds1, p1, q1, hargs1, rfl, rfl, h1, r1⟩ := trodAll_cons r0
  subst hargs1
  obtain ⟨v2, vs2, d2, ds2, p2, q2, hargs2, rfl, rfl, h2, r2⟩ := trodAll_cons r1
  subst hargs2
  obtain ⟨rfl, rfl, rfl⟩ := trodAll_nil r2
  obtain rfl : args = #[v0, v1, v2] := by cases args; simp_all
  obtain ⟨rfl, rfl⟩ := trodVars_none hV
  obtain ⟨x0, rfl, rfl, rfl, w0⟩ := open_int Try.underlying23 (hval 0 23 v0 rfl rfl) h0
  obtain ⟨x0, rfl, b0⟩ := nat_u64 w0
  obtain ⟨x1, rfl, rfl, rfl, w1⟩ := open_int Try.underlying23 (hval 1 23 v1 rfl rfl) h1
  obtain ⟨x1, rfl, b1⟩ := nat_u64 w1
  obtain ⟨x2, rfl, rfl, rfl, w2⟩ := open_int Try.underlying23 (hval 2 23 v2 rfl rfl) h2
  obtain ⟨x2, rfl, b2⟩ := nat_u64 w2
  clear hA0 hA hval r0 r1 r2
  refine (walk W x0 b0 x1 b1 x2 b2).mono fun e W' ⟨he, hbl⟩ => ?_
  subst he
  exact ⟨_, rfl, law_post laidOut rfl readable (fun _ _ _ => trodAll_mk1 (shut_bool Try.underlying4 _)) rfl rfl hW' hbl⟩

set_option maxRecDepth 100000 in
theorem lifted (os : Os) (started : os.Started) (H : Type) (enc : TypeId × Value → H) :
    ReturnsInHanded {} Try.checked os 7 .any (Rows.labelLatticeSpec.pre6 enc Try.prog Try.f7 Rows.labelLatticeRow.domain false) (Rows.labelLatticeSpec.post enc Try.prog Try.f7 false true false false) := by
  refine returnsInHanded_of_change (C := Try.checked) own started (by kernel_rfl) Try.func7
    (ChangeSpec.witness6 (enc := enc) (C := Try.checked) false ⟨#[], #[.int .u64 0, .int .u64 0, .int .u64 0], []⟩ 8 (by kernel_rfl) (by kernel_rfl) (by kernel_rfl) (by kernel_rfl)) ?_
  intro W base args ds gs before hval hW _ _
  exact contract H enc W base args ds gs before hval hW

theorem proved : Rows.LabelLatticeSaid :=
  OpenClaim.holds_of_wide 7 Try.f7 rfl rfl rfl rfl rfl rfl rfl ⟨rfl, rfl, rfl, rfl, rfl⟩ rfl rfl rfl rfl rfl (by kernel_rfl) Try.func7 (by kernel_rfl)
    (of_decide_eq_true (by kernel_rfl)) (by unfold Func.isWrapper; first | (rw [if_pos (by decide +kernel)]; kernel_rfl) | (rw [if_neg (by decide +kernel)]; exact ⟨rfl, rfl⟩))
    (fun os started H enc _ => lifted os started H enc)
end Go.Proofs.Ytoodneheadknoaa.labelLattice

/-
  For all labels: they come back from their texts and their categories, and unlike labels have unlike texts.
  No condition.
-/
import Derived.Test.YtoodneheadknoaaLabAlive
import Derived.Test.YtoodneheadknoaaLabParsed
namespace Go.Proofs.Ytoodneheadknoaa.labelBack
open Go.ChangeShapes Go.WideShapes Go.ChangeAt Go.RowKit

theorem cats_ints (cs : List Nat) : cs.map intv = (cs.map (fun c : Nat => (c : Int))).map intz := by
  rw [List.map_map]; rfl
theorem of_cats {a : Nat} (ha : a < 18446744073709551616) : ofTo ((catsTo a 64).map (fun c : Nat => (c : Int))) = some a := by
  have key : ∀ (cs : List Nat) (l : Nat), (∀ c ∈ cs, c < 64) → (cs.map (fun c : Nat => (c : Int))).foldl ofStep (some l) = some (cs.foldl (fun l c => l ||| 2 ^ c) l) := by
    intro cs
    induction cs with
    | nil => intro l _; rfl
    | cons c cs ih =>
      intro l h
      rw [List.map_cons, List.foldl_cons, List.foldl_cons, ofStep_yes (by omega) (by have := h c (by simp); omega), Int.toNat_natCast]
      exact ih _ (fun x hx => h x (by simp [hx]))
  unfold ofTo
  rw [key _ _ (catsTo_lt a 64)]
  congr 1
  exact lab_cats ha
theorem parse_print {a : Nat} (ha : a < 18446744073709551616) {r : Option Nat} (h : Told (printN a) r) : r = some a :=
  told_unique h ⟨ha, rfl⟩
theorem print_len {a : Nat} (ha : a < 18446744073709551616) : (printN a).length ≤ 192 := by
  unfold printN
  split
  · simp
  · have h1 := dots_len (catsTo a 64) 64
    have h2 := catsTo_len a 64
    rw [List.take_of_length_le h2] at h1
    omega
theorem print_beq {a b : Nat} (ha : a < 18446744073709551616) (hb : b < 18446744073709551616) : (printN a == printN b) = ((a : Int) == (b : Int)) := by
  rw [Bool.eq_iff_iff, beq_iff_eq, beq_iff_eq]
  constructor
  · intro h; rw [print_inj ha hb h]
  · intro h
    have : a = b := by omega
    rw [this]

set_option maxHeartbeats 1000000 in
theorem walk (w : World) (a : Nat) (ha : a < 18446744073709551616) (b : Nat) (hb : b < 18446744073709551616) :
    Calls Try.prog 9 #[.int .u64 a, .int .u64 b] w fun e w' => e = .returned (.bool true) ∧ Below w.heap.size w w' := by
  have hlen := print_len ha
  have HB := Lib.hid (print_beq ha hb)
  have HO := Lib.hid (of_cats ha)
  have hcl := catsTo_len a 64
  go_enter Try.func9, Try.ntmps9
  go_wp2_with fail
  refine (alive_any _).mono ?_
  rintro e w1 ⟨rfl, hb1⟩
  go_wp2_with fail
  refine (print_any a ha _).mono ?_
  rintro e w2 ⟨rfl, hb2⟩
  go_wp2_with fail
  refine (parse_any (printN a) (by unfold maxLen; omega) _).mono ?_
  rintro e w3 ⟨r, rfl, hr, rfl⟩
  rw [parse_print ha hr]
  clear hr
  unfold parseEnd
  go_wp2_with fail
  refine (cats_any a ha _).mono ?_
  rintro e w4 ⟨A, c, rfl, hown, hb4⟩
  have hrow := Row.of_own hown
  rw [cats_ints] at hrow
  have HC := Lib.hid (show (catsTo a 64).length = ((catsTo a 64).map (fun c : Nat => (c : Int))).length by simp)
  clear hown
  have hz3 := hb4.size
  go_wp2_with fail
  rw [HC.out]
  refine (of_any A c _ ((catsTo a 64).map (fun c : Nat => (c : Int))) (by rw [← HC.out]; unfold maxLen; omega) _ hrow).mono ?_
  rintro e w5 ⟨rfl, rfl⟩
  rw [HO.out]
  unfold ofEnd
  go_wp2_with fail
  refine (print_any a ha _).mono ?_
  rintro e w6 ⟨rfl, hb6⟩
  go_wp2_with fail
  refine (print_any b hb _).mono ?_
  rintro e w7 ⟨rfl, hb7⟩
  have hpb := HB.out
  go_wp2_with fail
  go_ret
  have z1 := hb1.size
  have z2 := hb2.size
  have z6 := hb6.size
  refine ⟨?_, ?_⟩
  · rfl
  · exact (((hb1.trans (hb2.mono z1)).trans (hb4.mono (by omega))).trans (hb6.mono (by omega))).trans (hb7.mono (by omega))


theorem own : ownKnob Try.prog.godebug = none := by kernel_rfl
theorem laidOut : laidOutB Try.prog = true := by kernel_rfl
theorem readable0 : Try.prog.readableRec 23 = true ∧ 23 < Try.prog.types.size := ⟨by kernel_rfl, of_decide_eq_true (by kernel_rfl)⟩
theorem readable : ∀ t ∈ Try.f9.params.toList, Try.prog.readableRec t = true ∧ t < Try.prog.types.size := by
  rw [Try.params9]
  intro t ht
  obtain rfl : t = 23 := by simpa using ht
  exact readable0

theorem contract (H : Type) (enc : TypeId × Value → H) (W : World) (base : Nat) (args : Array Value) (ds gs : List (DataW H)) (before : List MemPlace)
    (hval : ∀ (j : Nat) t v, Try.f9.params[j]? = some t → args[j]? = some v → Value.okWide Try.prog W .any base t v)
    (hW : DataW.Whole enc Try.prog Try.f9.params.toList Rows.labelBackSpec.vars false W args.toList ds gs before) :
    Calls Try.prog 9 args W fun e W' => ∃ v, e = .returned v ∧ Rows.labelBackSpec.post enc Try.prog Try.f9 false true false false W args v W' := by
  have hW' := hW
  have hlt := hW.lt
  obtain ⟨p, q, hA0, hV, rfl, hfz, hnd⟩ := hW
  have hA : DataW.TrodAll enc Try.prog W 0 (fun _ => true) true Try.f9.params.toList args.toList ds p := hA0
  rw [Try.params9] at hA hval
  obtain ⟨v0, vs0, d0, ds0, p0, q0, hargs0, rfl, rfl, h0, r0⟩ := trodAll_cons hA
  obtain ⟨v1, vs1, d1, ds1, p1, q1, hargs1, rfl, rfl, h1, r1⟩ := trodAll_cons r0
  subst hargs1
  obtain ⟨rfl, rfl, rfl⟩ := trodAll_nil r1
  obtain rfl : args = #[v0, v1] := by cases args; simp_all
  obtain ⟨rfl, rfl⟩ := trodVars_none hV
  obtain ⟨x0, rfl, rfl, rfl, w0⟩ := open_int Try.underlying23 (hval 0 23 v0 rfl rfl) h0
  obtain ⟨x0, rfl, b0⟩ := nat_u64 w0
  obtain ⟨x1, rfl, rfl, rfl, w1⟩ := open_int Try.underlying23 (hval 1 23 v1 rfl rfl) h1
  obtain ⟨x1, rfl, b1⟩ := nat_u64 w1
  clear hA0 hA hval r0 r1
  refine (walk W x0 b0 x1 b1).mono fun e W' ⟨he, hbl⟩ => ?_
  subst he
  exact ⟨_, rfl, law_post laidOut rfl readable (fun _ _ _ => trodAll_mk1 (shut_bool Try.underlying4 _)) rfl rfl hW' hbl⟩

set_option maxRecDepth 100000 in
theorem lifted (os : Os) (started : os.Started) (H : Type) (enc : TypeId × Value → H) :
    ReturnsInHanded {} Try.checked os 9 .any (Rows.labelBackSpec.pre6 enc Try.prog Try.f9 Rows.labelBackRow.domain false) (Rows.labelBackSpec.post enc Try.prog Try.f9 false true false false) := by
  refine returnsInHanded_of_change (C := Try.checked) own started (by kernel_rfl) Try.func9
    (ChangeSpec.witness6 (enc := enc) (C := Try.checked) false ⟨#[], #[.int .u64 0, .int .u64 0], []⟩ 8 (by kernel_rfl) (by kernel_rfl) (by kernel_rfl) (by kernel_rfl)) ?_
  intro W base args ds gs before hval hW _ _
  exact contract H enc W base args ds gs before hval hW

theorem proved : Rows.LabelBackSaid :=
  OpenClaim.holds_of_wide 9 Try.f9 rfl rfl rfl rfl rfl rfl rfl ⟨rfl, rfl, rfl, rfl, rfl⟩ rfl rfl rfl rfl rfl (by kernel_rfl) Try.func9 (by kernel_rfl)
    (of_decide_eq_true (by kernel_rfl)) (by unfold Func.isWrapper; first | (rw [if_pos (by decide +kernel)]; kernel_rfl) | (rw [if_neg (by decide +kernel)]; exact ⟨rfl, rfl⟩))
    (fun os started H enc _ => lifted os started H enc)
end Go.Proofs.Ytoodneheadknoaa.labelBack

/-
  The document's Tell: layer 11.
-/
import Derived.Test.YtbfedakncdodcaaGrDig
import Derived.Test.YtbfedakncdodcaaPieMem
import Derived.Deep.DeepCutAuto
namespace Go.Proofs.Ytbfedakncdodcaa
open Go.RowKit

theorem runz_oneG (zs : List Int) : ∀ u ∈ zs.map runz, u.oneCell' = true := by
  intro u hu
  obtain ⟨z, _, rfl⟩ := List.mem_map.1 hu
  rfl
/-- keys behind keys of one's own -/
theorem app_runes (w : World) (b : Nat) (A : Option Addr) (c : Nat) (xs : List Int) (hown : w.ownsRow b 21 1 (.slice A xs.length c) xs.length (xs.map runz)) (A2 : Option Addr) (d : Nat) (ys : List Int) (h : Row w w.heap.size A2 (ys.map runz)) (hl : xs.length + ys.length ≤ 1000000) (hb : b ≤ w.heap.size) :
    ∃ A3 c3 w2, (∀ ty, (Builtin.append_ #[25, 25] ty #[.slice A xs.length c, .slice A2 ys.length d]).run Try.prog w = .ok (.slice A3 (xs ++ ys).length c3) w2) ∧
      w2.ownsRow b 21 1 (.slice A3 (xs ++ ys).length c3) (xs ++ ys).length ((xs ++ ys).map runz) ∧ Below b w w2 := by
  obtain ⟨i, hi, hz, h1, h2⟩ := info_parts elt_rune.hi
  have s2 : Src Try.prog 1 25 (.slice A2 ys.length d) ys.length (ys.map runz) w := Src.ofRow elt_rune.ht (by simp) (by decide) h (runz_oneG ys)
  obtain ⟨v2, w2, e2, o2, g2, n2⟩ := run_append_any (P := Try.prog) b 25 25 25 21 i _ 1 4 elt_rune.ht hi hz h1 h2 elt_rune.hz (.slice A xs.length c) xs.length _ hown _ ys.length _ s2 (by unfold maxLen; omega) (by omega) hb
  obtain ⟨A3, c3, rfl⟩ := own_form o2
  have b2 := own_below hown g2 hb
  rw [← List.map_append, ← List.length_append] at o2
  rw [← List.length_append] at e2
  exact ⟨A3, c3, w2, fun ty => e2, o2, b2⟩
/-- keys of one's own so far -/
def OwnG (w0 : World) (v : Value) (l : List Int) (w : World) : Prop := ∃ A c, v = .slice A l.length c ∧ w.ownsRow w0.heap.size 21 1 (.slice A l.length c) l.length (l.map runz) ∧ Below w0.heap.size w0 w
theorem ownG_nil (w : World) : OwnG w (.slice none 0 0) [] w := ⟨none, 0, rfl, World.ownsRow_nil _ _ _ _, Below.refl _ _⟩

set_option maxHeartbeats 2000000 in
theorem refGTell_any (r n v m a : Int) (hr : -2147483648 ≤ r ∧ r ≤ 2147483647) (hn : 0 ≤ n ∧ n ≤ 999) (hv : -2147483648 ≤ v ∧ v ≤ 2147483647) (hm : -2147483648 ≤ m ∧ m ≤ 2147483647) (ha : -2147483648 ≤ a ∧ a ≤ 2147483647) (w : World) :
    Calls Try.prog 13 #[.agg #[.int .i64 r, .int .i64 n, .int .i64 v, .int .i64 m, .int .i64 a]] w fun e w' => ∃ A c, e = .returned (.slice A (tellG ⟨r, n, v, m, a⟩).length c) ∧ Row w' w'.heap.size A ((tellG ⟨r, n, v, m, a⟩).map runz) ∧ Below w.heap.size w w' := by
  have HB : Hid (Blk (w.alloc (.cells #[.int .i64 r, .int .i64 n, .int .i64 v, .int .i64 m, .int .i64 a] 33)) w.heap.size 33 #[.int .i64 r, .int .i64 n, .int .i64 v, .int .i64 m, .int .i64 a]) := Blk.new _ _ _
  have HW : Hid (Below w.heap.size w (w.alloc (.cells #[.int .i64 r, .int .i64 n, .int .i64 v, .int .i64 m, .int .i64 a] 33))) := (Below.refl _ w).alloc (Nat.le_refl _) _
  go_enter Try.func13, Try.ntmps13
  go_upto_region 2 with fail
  generalize w.alloc (.cells #[.int .i64 r, .int .i64 n, .int .i64 v, .int .i64 m, .int .i64 a] 33) = wb at *
  have HC : Hid (∀ w', Below wb.heap.size wb w' → (w'.cell? ⟨w.heap.size, 0, none⟩ = some (.int .i64 r) ∧ w'.cell? ⟨w.heap.size, 1, none⟩ = some (.int .i64 n) ∧ w'.cell? ⟨w.heap.size, 2, none⟩ = some (.int .i64 v) ∧ w'.cell? ⟨w.heap.size, 3, none⟩ = some (.int .i64 m) ∧ w'.cell? ⟨w.heap.size, 4, none⟩ = some (.int .i64 a))) := fun w' hb => by
    have hB := HB.out.below hb HB.out.lt
    exact ⟨hB.cell 0, hB.cell 1, hB.cell 2, hB.cell 3, hB.cell 4⟩
  obtain ⟨y0, y1, y2, y3, y4⟩ := HC.out wb (Below.refl _ _)
  clear HB
  go_upto_if 6 with fail
  generalize hp1 : (if r ≠ 0 then [34, r] else []) = p1
  have HP1 := Lib.hid hp1
  clear hp1
  go_cut [3] (fun v3 wx => OwnG wb v3 p1 wx)
  case first =>
    by_cases h : r = 0
    · have e0 : (r != 0) = false := by simp [h]
      have HE : Hid (p1 = []) := by rw [Hid, ← HP1.out, if_neg (by simp [h])]
      clear h
      go_wp2_with fail
      go_meet
      rw [HE.out]
      exact ownG_nil _
    · have e0 : (r != 0) = true := by simp [h]
      have HE : Hid (p1 = [34, r]) := by rw [Hid, ← HP1.out, if_pos h]
      clear h
      obtain ⟨A3, c3, w3, e3, o3, b3⟩ := app_runes (wb.alloc (.cells #[.int .i32 34, .int .i32 r] 21)) wb.heap.size none 0 [] (World.ownsRow_nil _ _ _ _) (some ⟨wb.heap.size, 0, none⟩) 2 [34, r] ((row_newL wb 21 ([34, r].map runz)).more (by simp)) (by simp) (by simp)
      have HA := Lib.hid e3
      have b4 := ((Below.refl wb.heap.size wb).alloc (Nat.le_refl _) (.cells #[.int .i32 34, .int .i32 r] 21)).trans b3
      clear e3 b3
      go_wp2_with (at_builtin; refine wpList_append_eq rfl (.tmp 7) (.tmp 11) 25 25 rfl _ _ rfl rfl (HA.out _) ?_)
      go_meet
      rw [HE.out]
      exact ⟨A3, c3, rfl, o3, b4⟩
  case rest =>
  obtain ⟨A1, c1, rfl, o1, b1⟩ := hcut
  obtain ⟨y0, y1, y2, y3, y4⟩ := HC.out wc b1
  have HO := Lib.hid o1
  have H1 := Lib.hid (show p1.length ≤ 2 by rw [← HP1.out]; split <;> simp)
  have HDL := Lib.hid (show (digitsG n).length ≤ 3 by rw [← digD_all]; exact digD_len n 0)
  clear o1
  go_upto_if 26 with (first
    | (go_at_call 19; refine (refGDigits_any n hn _).mono ?_; rintro e w2 ⟨A2, c2, rfl, o2, b2⟩
       obtain ⟨A3, c3, w3, e3, o3, b3⟩ := app_runes w2 wb.heap.size A1 c1 p1 (own_keep HO.out b2 (Nat.le_refl _)) A2 c2 (digitsG n) (Row.of_own o2) (by have := H1.out; have := HDL.out; omega) (Nat.le_trans b1.size b2.size)
       have HA := Lib.hid e3
       have b4 := (b1.trans (b2.mono b1.size)).trans b3
       obtain ⟨z0, z1, z2, z3, z4⟩ := HC.out w3 b4
       have H2 := Lib.hid (show (p1 ++ digitsG n).length ≤ 5 by rw [List.length_append]; have := H1.out; have := HDL.out; omega)
       generalize hL2 : p1 ++ digitsG n = L2 at *
       have HL2 := Lib.hid hL2
       have HO3 := Lib.hid o3
       clear e3 hL2 o2 b2 b3 o3)
    | (at_builtin; refine wpList_append_eq rfl (.tmp 13) (.tmp 16) 25 25 rfl _ _ rfl rfl (HA.out _) ?_)
    | (at_builtin; refine wpList_push rfl (.tmp 18) (.tmp 22) _ rfl wb.heap.size 21 _ 4 elt_rune _ _ _ _ rfl HO3.out (.int .i32 v) rfl rfl (by have := H2.out; unfold maxLen; omega) (by have := H2.out; omega) b4.size ?_
       intro v5 w5 o5 b5
       obtain ⟨A5, c5, rfl⟩ := own_form o5
       have b6 := b4.trans b5
       clear z0 z1 z2 z3 z4
       obtain ⟨z0, z1, z2, z3, z4⟩ := HC.out w5 b6))
  clear y0 y1 y2 y3 y4 HA HO HO3
  obtain ⟨L3, hL3⟩ : ∃ L3, L2 ++ [v] = L3 := ⟨_, rfl⟩
  have hk : L2.length + 1 = L3.length := by rw [← hL3, List.length_append]; rfl
  rw [hk] at o5 ⊢
  rw [show List.map runz L2 ++ [Value.int .i32 v] = L3.map runz by rw [← hL3, List.map_append]; rfl] at o5
  have HL3 := Lib.hid hL3
  have Hlen3 := Lib.hid (show L3.length ≤ 6 by have := H2.out; omega)
  clear hL3 hk H2
  obtain ⟨L4, hL4⟩ : ∃ L4, L3 ++ (if v = 103 then [103] else []) = L4 := ⟨_, rfl⟩
  have HL4 := Lib.hid hL4
  have Hlen4 := Lib.hid (show L4.length ≤ 7 by rw [← hL4, List.length_append]; have := Hlen3.out; split <;> simp <;> omega)
  clear hL4
  go_cut [3] (fun v3 wx => OwnG wb v3 L4 wx)
  case first =>
    by_cases h : v = 103
    · have e0 : (v == 103) = true := by simp [h]
      have HE : Hid (L4 = L3 ++ [103]) := by rw [Hid, ← HL4.out, if_pos h]
      clear h
      go_wp2_with (at_builtin; refine wpList_push rfl (.tmp 27) (.tmp 28) _ rfl wb.heap.size 21 _ 4 elt_rune _ _ _ _ rfl o5 (.int .i32 103) rfl rfl (by have := Hlen3.out; unfold maxLen; omega) (by have := Hlen3.out; omega) b6.size ?_; intro v9 w9 o9 b9)
      go_meet
      obtain ⟨A9, c9, rfl⟩ := own_form o9
      refine ⟨A9, c9, ?_, ?_, b6.trans b9⟩
      · rw [HE.out, List.length_append]; rfl
      · rw [HE.out, List.length_append, List.map_append]; exact o9
    · have e0 : (v == 103) = false := by simpa using h
      have HE : Hid (L4 = L3) := by rw [Hid, ← HL4.out, if_neg h, List.append_nil]
      clear h
      go_wp2_with fail
      go_meet
      rw [HE.out]
      exact ⟨A5, c5, rfl, o5, b6⟩
  case rest =>
  clear z0 z1 z2 z3 z4
  obtain ⟨A4, c4, rfl, o4, b4⟩ := hcut
  obtain ⟨z0, z1, z2, z3, z4⟩ := HC.out wc b4
  go_upto_if 32 with fail
  obtain ⟨L5, hL5⟩ : ∃ L5, L4 ++ (if m ≠ 0 then [m] else []) = L5 := ⟨_, rfl⟩
  have HL5 := Lib.hid hL5
  have Hlen5 := Lib.hid (show L5.length ≤ 8 by rw [← hL5, List.length_append]; have := Hlen4.out; split <;> simp <;> omega)
  clear hL5
  go_cut [3] (fun v3 wx => OwnG wb v3 L5 wx)
  case first =>
    by_cases h : m ≠ 0
    · have e0 : (m != 0) = true := by simp [h]
      have HE : Hid (L5 = L4 ++ [m]) := by rw [Hid, ← HL5.out, if_pos h]
      clear h
      go_wp2_with (at_builtin; refine wpList_push rfl (.tmp 33) (.tmp 37) _ rfl wb.heap.size 21 _ 4 elt_rune _ _ _ _ rfl o4 (.int .i32 m) rfl rfl (by have := Hlen4.out; unfold maxLen; omega) (by have := Hlen4.out; omega) b4.size ?_; intro v9 w9 o9 b9)
      go_meet
      obtain ⟨A9, c9, rfl⟩ := own_form o9
      refine ⟨A9, c9, ?_, ?_, b4.trans b9⟩
      · rw [HE.out, List.length_append]; rfl
      · rw [HE.out, List.length_append, List.map_append]; exact o9
    · have e0 : (m != 0) = false := by simpa using h
      have HE : Hid (L5 = L4) := by rw [Hid, ← HL5.out, if_neg h, List.append_nil]
      clear h
      go_wp2_with fail
      go_meet
      rw [HE.out]
      exact ⟨A4, c4, rfl, o4, b4⟩
  case rest =>
  clear z0 z1 z2 z3 z4
  obtain ⟨A5, c5, rfl, o5, b5⟩ := hcut
  obtain ⟨z0, z1, z2, z3, z4⟩ := HC.out wc b5
  go_upto_if 41 with fail
  obtain ⟨L6, hL6⟩ : ∃ L6, L5 ++ (if m = 103 then [103] else []) = L6 := ⟨_, rfl⟩
  have HL6 := Lib.hid hL6
  have Hlen6 := Lib.hid (show L6.length ≤ 9 by rw [← hL6, List.length_append]; have := Hlen5.out; split <;> simp <;> omega)
  clear hL6
  go_cut [3] (fun v3 wx => OwnG wb v3 L6 wx)
  case first =>
    by_cases h : m = 103
    · have e0 : (m == 103) = true := by simp [h]
      have HE : Hid (L6 = L5 ++ [103]) := by rw [Hid, ← HL6.out, if_pos h]
      clear h
      go_wp2_with (at_builtin; refine wpList_push rfl (.tmp 42) (.tmp 43) _ rfl wb.heap.size 21 _ 4 elt_rune _ _ _ _ rfl o5 (.int .i32 103) rfl rfl (by have := Hlen5.out; unfold maxLen; omega) (by have := Hlen5.out; omega) b5.size ?_; intro v9 w9 o9 b9)
      go_meet
      obtain ⟨A9, c9, rfl⟩ := own_form o9
      refine ⟨A9, c9, ?_, ?_, b5.trans b9⟩
      · rw [HE.out, List.length_append]; rfl
      · rw [HE.out, List.length_append, List.map_append]; exact o9
    · have e0 : (m == 103) = false := by simpa using h
      have HE : Hid (L6 = L5) := by rw [Hid, ← HL6.out, if_neg h, List.append_nil]
      clear h
      go_wp2_with fail
      go_meet
      rw [HE.out]
      exact ⟨A5, c5, rfl, o5, b5⟩
  case rest =>
  clear z0 z1 z2 z3 z4
  obtain ⟨A6, c6, rfl, o6, b6⟩ := hcut
  obtain ⟨z0, z1, z2, z3, z4⟩ := HC.out wc b6
  go_upto_if 47 with fail
  obtain ⟨L7, hL7⟩ : ∃ L7, L6 ++ (if a ≠ 0 then [a] else []) = L7 := ⟨_, rfl⟩
  have HL7 := Lib.hid hL7
  have Hlen7 := Lib.hid (show L7.length ≤ 10 by rw [← hL7, List.length_append]; have := Hlen6.out; split <;> simp <;> omega)
  clear hL7
  go_cut [3] (fun v3 wx => OwnG wb v3 L7 wx)
  case first =>
    by_cases h : a ≠ 0
    · have e0 : (a != 0) = true := by simp [h]
      have HE : Hid (L7 = L6 ++ [a]) := by rw [Hid, ← HL7.out, if_pos h]
      clear h
      go_wp2_with (at_builtin; refine wpList_push rfl (.tmp 48) (.tmp 52) _ rfl wb.heap.size 21 _ 4 elt_rune _ _ _ _ rfl o6 (.int .i32 a) rfl rfl (by have := Hlen6.out; unfold maxLen; omega) (by have := Hlen6.out; omega) b6.size ?_; intro v9 w9 o9 b9)
      go_meet
      obtain ⟨A9, c9, rfl⟩ := own_form o9
      refine ⟨A9, c9, ?_, ?_, b6.trans b9⟩
      · rw [HE.out, List.length_append]; rfl
      · rw [HE.out, List.length_append, List.map_append]; exact o9
    · have e0 : (a != 0) = false := by simpa using h
      have HE : Hid (L7 = L6) := by rw [Hid, ← HL7.out, if_neg h, List.append_nil]
      clear h
      go_wp2_with fail
      go_meet
      rw [HE.out]
      exact ⟨A6, c6, rfl, o6, b6⟩
  case rest =>
  clear z0 z1 z2 z3 z4
  obtain ⟨A7, c7, rfl, o7, b7⟩ := hcut
  obtain ⟨z0, z1, z2, z3, z4⟩ := HC.out wc b7
  have HT : Hid (tellG ⟨r, n, v, m, a⟩ = L7) := by
    rw [Hid, ← HL7.out, ← HL6.out, ← HL5.out, ← HL4.out, ← HL3.out, ← HL2.out, ← HP1.out]
    rfl
  go_wp2_with fail
  go_ret
  rw [HT.out]
  exact ⟨A7, c7, rfl, Row.of_own o7, HW.out.trans (b7.mono HW.out.size)⟩
end Go.Proofs.Ytbfedakncdodcaa

/-
  The landed find: layer 15.
-/
import Derived.Test.YtgmeamefbfgbgaaDoorSuStd
import Derived.Test.YtgmeamefbfgbgaaDoorSuLab
namespace Go.Proofs.YtgmeamefbfgbgaaDoor
open Go.RowKit
set_option maxRecDepth 100000

theorem finL_from {M pat : List UInt8} {every : Bool} {R : List (List UInt8)} {k p : Nat} (hk : k < R.length) : finL M pat every (R.drop k) p = placesAt M [] 0 pat every (p + R[k].length) R[k].length p ++ finL M pat every (R.drop (k + 1)) (p + R[k].length + 1) := by
  rw [List.drop_eq_getElem_cons hk]
  rfl
theorem totS_from {R : List (List UInt8)} {k : Nat} (hk : k < R.length) : totS (R.drop k) = R[k].length + 1 + totS (R.drop (k + 1)) := by
  rw [List.drop_eq_getElem_cons hk, totS_cons]
theorem su_job {w : World} {g T : Nat} {A B : Int} {pat rep : List UInt8} {ev : Bool} (h : Blk w g T #[.int .i64 A, .int .i64 B, .string ⟨pat.toArray⟩, .string ⟨rep.toArray⟩, .bool ev]) :
    w.cell? ⟨g, 0, none⟩ = some (.int .i64 A) ∧ w.cell? ⟨g, 1, none⟩ = some (.int .i64 B) ∧ w.cell? ⟨g, 2, none⟩ = some (.string ⟨pat.toArray⟩) ∧ w.cell? ⟨g, 3, none⟩ = some (.string ⟨rep.toArray⟩) ∧ w.cell? ⟨g, 4, none⟩ = some (.bool ev) :=
  ⟨by have := h.cell 0; simpa using this, by have := h.cell 1; simpa using this, by have := h.cell 2; simpa using this, by have := h.cell 3; simpa using this, by have := h.cell 4; simpa using this⟩
theorem index_nil {pat : List UInt8} (h : 0 < pat.length) : Lib.index [] pat = -1 := by
  unfold Lib.index
  rw [if_neg (by cases pat with | nil => simp at h | cons a b => simp)]
theorem su_snoc {w : World} {B : Nat} {v : Value} {D E : List Nat} {q j : Nat} (h : w.ownsRow B 3 1 v ((D ++ E).length + 1) ((D ++ E).map intn ++ [.int .i64 ((q : Int) + (j : Int))])) : w.ownsRow B 3 1 v (D ++ (E ++ [q + j])).length ((D ++ (E ++ [q + j])).map intn) := by
  have e : intn (q + j) = .int .i64 ((q : Int) + (j : Int)) := by unfold intn; rw [Int.natCast_add]
  rw [← List.append_assoc, List.length_append, List.map_append, List.map_cons, e]
  exact h
set_option maxHeartbeats 4000000 in
theorem suFind_any (V M : List UInt8) (hV : V.length ≤ 5000) (hM : M.length = V.length) (a b : Int) (pat rep : List UInt8) (ev : Bool) (h0 : 0 < pat.length) (hp : pat.length ≤ 5000) (hst : totS (linesOf V) = V.length + 1) (w : World) (hm : MaxW w) :
    Calls Tryd.prog 27 #[.string ⟨V.toArray⟩, .string ⟨M.toArray⟩, .agg #[.int .i64 a, .int .i64 b, .string ⟨pat.toArray⟩, .string ⟨rep.toArray⟩, .bool ev]] w fun e w' => ∃ A' c', e = .returned (.slice A' (finL M pat ev (linesOf V) 0).length c') ∧ w'.ownsRow w.heap.size 3 1 (.slice A' (finL M pat ev (linesOf V) 0).length c') (finL M pat ev (linesOf V) 0).length ((finL M pat ev (linesOf V) 0).map intn) ∧ Below w.heap.size w w' := by
  have K := Lib.hid ((blk_box w (T := 28) (cs := #[.int .i64 a, .int .i64 b, .string ⟨pat.toArray⟩, .string ⟨rep.toArray⟩, .bool ev])).and ((bel_box (Below.refl _ w) (.cells #[.int .i64 a, .int .i64 b, .string ⟨pat.toArray⟩, .string ⟨rep.toArray⟩, .bool ev] 28)).and (fun w' hb => hm.below ((bel_box (Below.refl _ w) (.cells #[.int .i64 a, .int .i64 b, .string ⟨pat.toArray⟩, .string ⟨rep.toArray⟩, .bool ev] 28)) w' hb))))
  have HSP := Lib.hid (fun wx => stdSplit_any V (by omega) wx)
  have HAL : Hid ((finL M pat ev (linesOf V) 0).length ≤ V.length) := by
    have := (finL_apart (M := M) (pat := pat) (every := ev) (linesOf V) 0 V.length (by omega) (fun _ => Nat.zero_le _)).le
    have h3 : (finL M pat ev (linesOf V) 0).length ≤ (finL M pat ev (linesOf V) 0).length * pat.length := Nat.le_mul_of_pos_right _ h0
    show _ ≤ _
    omega
  have HR : Hid ((linesOf V).length ≤ V.length + 1) := by rw [linesOf_len]; have := List.count_le_length (a := (10 : UInt8)) (l := V); show _ ≤ _; omega
  clear hm
  generalize linesOf V = R at *
  have HTO := Lib.hid hst
  clear hst
  have hrl := HR.out
  go_enter Tryd.func27, Tryd.ntmps27
  go_upto_region 1 with fail
  generalize w.alloc (.cells #[.int .i64 a, .int .i64 b, .string ⟨pat.toArray⟩, .string ⟨rep.toArray⟩, .bool ev] 28) = wa at *
  go_upto_region 4 with (go_at_call 59; refine (HSP.out _).mono ?_; rintro e w2 ⟨rfl, hw2'⟩; have HW2 := Lib.hid hw2'; clear hw2'; have SR : Hid (Blk w2 wa.heap.size 9 (R.map fun x => Value.string ⟨x.toArray⟩).toArray) := by {show Blk _ _ _ _; rw [HW2.out]; exact Blk.new _ _ _}; have bb : Below wa.heap.size wa w2 := by {rw [HW2.out]; exact (Below.refl _ _).alloc (Nat.le_refl _) _}; have K2 := Lib.hid ((K.out.step bb).and (grow_blk SR.out)))
  clear K HSP SR bb HW2
  generalize wa.heap.size = gs at *
  go_loopw [7, 8, 10, 11, 12, 16] (fun v n _ _ _ i wr => ∃ (k p : Nat) (D : List Nat), k ≤ R.length ∧ i = .int .i64 k ∧ n = .int .i64 p ∧ finL M pat ev R 0 = D ++ finL M pat ev (R.drop k) p ∧ p + totS (R.drop k) = V.length + 1 ∧ wr.ownsRow w2.heap.size 3 1 v D.length (D.map intn) ∧ Below w2.heap.size w2 wr) (fun _ _ _ _ _ i _ => R.length - (intOf i).toNat)
  case atStart => exact ⟨0, 0, [], Nat.zero_le _, rfl, rfl, rfl, by rw [List.drop_zero, HTO.out]; omega, World.ownsRow_nil _ _ _ _, Below.refl _ _⟩
  case round =>
    obtain ⟨k, p, D, hk, rfl, rfl, hD, hT, hown, hbl⟩ := hrel
    have zl := hbl.size
    by_cases hlt : k < R.length
    · have cc : wr.cell? ⟨gs, k, none⟩ = some (.string ⟨R[k].toArray⟩) := by
        have := (K2.out _ hbl).2.cell k
        rw [this]
        simp [hlt]
      have HFR := Lib.hid (finL_from (M := M) (pat := pat) (every := ev) (p := p) hlt)
      have HTR := Lib.hid (totS_from hlt)
      have HD := Lib.hid hD
      clear hD
      generalize R[k] = x at *
      have HTX : Hid (p + x.length + 1 + totS (R.drop (k + 1)) = V.length + 1) := by
        have := HTR.out
        show _ = _
        omega
      have hpe : p + x.length ≤ V.length := by have := HTX.out; omega
      have HFX : Hid (finL M pat ev R 0 = D ++ (placesAt M [] 0 pat ev (p + x.length) x.length p ++ finL M pat ev (R.drop (k + 1)) (p + x.length + 1))) := by
        show _ = _
        rw [HD.out, HFR.out]
      clear HFR HTR hT HD
      have hal := HAL.out
      rw [HFX.out, List.length_append, List.length_append] at hal
      go_upto_region 7 with fail
      generalize hz : p + x.length = z at *
      have HZ := Lib.hid hz
      clear hz
      have hzi : (p : Int) + (x.length : Int) = (z : Int) := by have := HZ.out; omega
      rw [hzi]
      clear hzi
      have HK0 := Lib.hid hown
      clear hown cc
      go_loopw [7, 8, 12] (fun v n _ wx => ∃ (E : List Nat) (q : Nat), n = .int .i64 q ∧ q ≤ z ∧ placesAt M [] 0 pat ev z x.length p = E ++ placesAt M [] 0 pat ev z (z - q) q ∧ wx.ownsRow w2.heap.size 3 1 v (D ++ E).length ((D ++ E).map intn) ∧ Below w2.heap.size w2 wx) (fun _ n _ _ => z - (intOf n).toNat)
      case atStart => exact ⟨[], p, rfl, by have := HZ.out; omega, by rw [List.nil_append, show z - p = x.length by have := HZ.out; omega], by rw [List.append_nil]; exact HK0.out, hbl⟩
      case round =>
        clear HK0 hbl zl
        obtain ⟨E, q, rfl, hq, hE, hown, hbl⟩ := hrel
        have zl := hbl.size
        have HE := Lib.hid hE
        clear hE
        have HM0 := Lib.hid hM
        have x0 : (0 : Int) ≤ (q : Int) := by omega
        have x1 : (q : Int) ≤ (z : Int) := by omega
        have x2 : (z : Int) ≤ (M.length : Int) := by omega
        have HIX : Hid (∀ wx, MaxW wx → Calls Tryd.prog 60 #[.string ((⟨M.toArray⟩ : ByteArray).extract q z), .string ⟨pat.toArray⟩] wx fun e w' => e = .returned (.int .i64 (Lib.index ((M.drop q).take (z - q)) pat)) ∧ w' = wx) := fun wx hx => by
          rw [text_cut]
          exact (suIndex_any _ pat (by simp; omega) wx hx).mono fun _ _ h => ⟨h.1, h.2.symm⟩
        have hpd : D.length + E.length ≤ V.length := by rw [HE.out, List.length_append] at hal; omega
        have HJ := Lib.hid (index_ways ((M.drop q).take (z - q)) pat)
        have HJN : Hid (Lib.index ((M.drop q).take (z - q)) pat = -1 → placesAt M [] 0 pat ev z (z - q) q = []) := fun h => jump_none (by omega) hq h
        have HJS : Hid (∀ k : Nat, Lib.index ((M.drop q).take (z - q)) pat = k → q < z ∧ q + k + pat.length ≤ z ∧ placesAt M [] 0 pat ev z (z - q) q = [q + k] ++ (if ev = true then placesAt M [] 0 pat ev z (z - (q + k + pat.length)) (q + k + pat.length) else [])) := fun k h => by
          have hqz : q < z := by
            rcases Nat.lt_or_ge q z with h' | h'
            · exact h'
            · exfalso
              rw [show z - q = 0 by omega, List.take_zero, index_nil h0] at h
              omega
          have := jump_some (every := ev) (by omega) hqz h0 h
          exact ⟨hqz, this.1, this.2⟩
        have hge := Lib.index_ge ((M.drop q).take (z - q)) pat
        have hix : ∃ i, Lib.index ((M.drop q).take (z - q)) pat = i := ⟨_, rfl⟩
        obtain ⟨ix, hix⟩ := hix
        rw [hix] at HIX HJN HJS hge
        clear hix HJ
        obtain ⟨z0, z1, z2, z3, z4⟩ := su_job (K2.out _ hbl).1.1
        have HMW := Lib.hid ((K2.out _ hbl).1.2.2)
        clear hM
        go_upto_region 7 with fail
        go_quiet (first | (go_at_call 60; refine Calls.quiet_of_same (HIX.out _ HMW.out)))
        clear z0 z1 z2 z3 z4 HMW HIX
        have e0 : Below w2.heap.size w2 (wr.drewN nq) := below_drewN hbl nq
        have o0 : (wr.drewN nq).ownsRow w2.heap.size 3 1 u7 (D ++ E).length ((D ++ E).map intn) := own_keep hown (below_drewN (Below.refl _ wr) nq) (Nat.le_refl _)
        clear hown hbl zl
        generalize wr.drewN nq = ws at *
        have zl := e0.size
        obtain ⟨z0, z1, z2, z3, z4⟩ := su_job (K2.out _ e0).1.1
        by_cases hneg : ix < 0
        · have HN := Lib.hid (HJN.out (by omega))
          go_wp2_with fail
          go_roundw
          case rel => exact ⟨k + 1, z + 1, D ++ E, by omega, by go_num, by go_num, by rw [HFX.out, HE.out, HN.out, List.append_nil, List.append_assoc], by have := HTX.out; have := HZ.out; omega, o0, e0⟩
          case measure => simp [intOf]; omega
        · obtain ⟨j, rfl⟩ : ∃ j : Nat, ix = (j : Int) := ⟨ix.toNat, by omega⟩
          obtain ⟨hqz, hjz, hpl⟩ := HJS.out j rfl
          have HP := Lib.hid hpl
          clear hpl HJN HJS hneg hge
          obtain ⟨A1, c1, rfl⟩ := own_form o0
          have HO := Lib.hid o0
          clear o0
          have hde : (D ++ E).length = D.length + E.length := List.length_append
          have w0 := wrap_small ((q : Int) + (j : Int)) (by omega) (by omega)
          have w1 := wrap_small ((j : Int) + (pat.length : Int)) (by omega) (by omega)
          have w3 := wrap_small ((q : Int) + ((j : Int) + (pat.length : Int))) (by omega) (by omega)
          cases ev with
          | true =>
            go_wp2_with (at_builtin; refine wpList_push rfl _ _ _ rfl w2.heap.size 3 _ 8 elt_int _ _ _ _ rfl HO.out (.int .i64 ((q : Int) + (j : Int))) rfl rfl (by unfold maxLen; omega) (by omega) zl ?_; intro v5 w5 hown5 hb5; have hb6 := e0.trans hb5; clear z0 z1 z2 z3 z4; obtain ⟨z0, z1, z2, z3, z4⟩ := su_job (K2.out _ hb6).1.1)
            go_roundw
            case rel => exact ⟨E ++ [q + j], q + j + pat.length, by go_num, by omega, by rw [HE.out, HP.out, if_pos rfl, List.append_assoc], su_snoc hown5, hb6⟩
            case measure => simp [intOf]; omega
          | false =>
            go_wp2_with (at_builtin; refine wpList_push rfl _ _ _ rfl w2.heap.size 3 _ 8 elt_int _ _ _ _ rfl HO.out (.int .i64 ((q : Int) + (j : Int))) rfl rfl (by unfold maxLen; omega) (by omega) zl ?_; intro v5 w5 hown5 hb5; have hb6 := e0.trans hb5; clear z0 z1 z2 z3 z4; obtain ⟨z0, z1, z2, z3, z4⟩ := su_job (K2.out _ hb6).1.1)
            go_roundw
            case rel => exact ⟨k + 1, z + 1, D ++ (E ++ [q + j]), by omega, by go_num, by go_num, by rw [HFX.out, HE.out, HP.out, if_neg (by decide), List.append_nil]; simp only [List.append_assoc], by have := HTX.out; have := HZ.out; omega, su_snoc hown5, hb6⟩
            case measure => simp [intOf]; omega
    · obtain rfl : k = R.length := by omega
      obtain ⟨A9, c9, rfl⟩ := own_form hown
      have HE : Hid (finL M pat ev R 0 = D) := by show _ = _; rw [hD, List.drop_length]; exact List.append_nil _
      go_wp2_with fail
      go_ret
      rw [HE.out]
      exact ⟨A9, c9, rfl, own_base hown (K2.out.now.1.2.1.size), (K2.out.now.1.2.1).trans (hbl.mono K2.out.now.1.2.1.size)⟩
end Go.Proofs.YtgmeamefbfgbgaaDoor

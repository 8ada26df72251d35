/-
  Merged: ObCell, ObRows, ObBrac, ObQuot, ObAbou, ObBetw, ObWord, ObRang, ObFind.
-/
import Derived.Test.YtnkhlallnblfmaaM12r
import Derived.Test.YtnkhlallnblfmaaPieMem
import Derived.StillTailTactics
import Derived.Deep.RegionHeldLaw
import Derived.Deep.AppendLies
import Derived.Test.YtnkhlallnblfmaaM12p
import Derived.Test.YtnkhlallnblfmaaGrRef
/-
  Rows of three numbers, one behind the other: in memory, and as plain lists: layer 13.
-/
namespace Go.Proofs.Ytnkhlallnblfmaa
open Go.RowKit

/-- from, to, class -/
abbrev RwO := Nat × Nat × Nat
def rowV (r : RwO) : List Value := [.int .i64 (r.1 : Nat), .int .i64 (r.2.1 : Nat), .int .i64 (r.2.2 : Nat)]
def flatO (L : List RwO) : List Value := L.flatMap rowV
theorem flatO_snoc (L : List RwO) (r : RwO) : flatO (L ++ [r]) = flatO L ++ rowV r := by simp [flatO]
theorem flatO_len (L : List RwO) : (flatO L).length = L.length * 3 := by
  induction L with
  | nil => rfl
  | cons r L ih => simp only [flatO, List.flatMap_cons, List.length_append, List.length_cons] at *; rw [ih]; simp [rowV]; omega
theorem flatO_get (L : List RwO) (k : Nat) (hk : k < L.length) (j : Nat) (hj : j < 3) : (flatO L)[k * 3 + j]? = (rowV L[k])[j]? := by
  induction L generalizing k with
  | nil => simp at hk
  | cons r L ih =>
    cases k with
    | zero =>
      simp only [flatO, List.flatMap_cons, Nat.zero_mul, Nat.zero_add, List.getElem_cons_zero]
      rw [List.getElem?_append_left (by simp [rowV]; exact hj)]
    | succ k =>
      simp only [flatO, List.flatMap_cons, List.getElem_cons_succ]
      rw [List.getElem?_append_right (by simp [rowV]; omega), show (k + 1) * 3 + j - (rowV r).length = k * 3 + j by simp [rowV]; omega]
      exact ih k (by simpa using hk)
theorem obj_at {w : World} {B k : Nat} {A : Option Addr} {L : List RwO} (h : Row w B A (flatO L)) (hk : k < L.length) :
    ∃ ad, A = some ad ∧ ad.block < B ∧ w.cell? (ad.add (k * 3)) = some (.int .i64 (L[k].1 : Nat)) ∧ w.cell? ⟨(ad.add (k * 3)).block, (ad.add (k * 3)).off + 1, none⟩ = some (.int .i64 (L[k].2.1 : Nat)) ∧
      w.cell? ⟨(ad.add (k * 3)).block, (ad.add (k * 3)).off + 2, none⟩ = some (.int .i64 (L[k].2.2 : Nat)) := by
  have g0 := flatO_get L k hk 0 (by omega)
  have g1 := flatO_get L k hk 1 (by omega)
  have g2 := flatO_get L k hk 2 (by omega)
  rcases h with h | ⟨ad, e, hb, hc⟩
  · exfalso
    have := flatO_len L
    rw [h] at this
    simp at this
    omega
  · refine ⟨ad, e, hb, hc (k * 3) _ g0, ?_, ?_⟩
    · rw [← add_field ad (k * 3) 1 (by omega)]
      exact hc (k * 3 + 1) _ g1
    · rw [← add_field ad (k * 3) 2 (by omega)]
      exact hc (k * 3 + 2) _ g2
theorem obj_set {w : World} {base e size n c g : Nat} {xs : List Value} (h : w.ownsRow base e size (.slice (some ⟨g, 0, none⟩) n c) n xs) (j : Nat) (u : Value) :
    (w.setCell ⟨g, j, none⟩ u).ownsRow base e size (.slice (some ⟨g, 0, none⟩) n c) n (xs.set j u) := by
  obtain ⟨hl, h⟩ := h
  rcases h with ⟨hv, _⟩ | ⟨g', cap, cur, hv, hb, hg, hn, hm, hs, ht⟩
  · simp at hv
  · simp at hv
    obtain ⟨rfl, rfl⟩ := hv
    refine ⟨by simp [hl], .inr ⟨g, c, cur.setIfInBounds j u, rfl, hb, heap_setCell_same w g j cur e u hg, hn, hm, by simp [hs], ?_⟩⟩
    rw [← ht]
    simp [List.take_set]
theorem obj_frozen {w : World} {base e size n c g : Nat} {xs : List Value} (h : w.ownsRow base e size (.slice (some ⟨g, 0, none⟩) n c) n xs) (j : Nat) : w.frozen? ⟨g, j, none⟩ = false := by
  rcases h.2 with ⟨hv, _⟩ | ⟨g', cap, cur, hv, hb, hg, _⟩
  · simp at hv
  · simp at hv
    obtain ⟨rfl, rfl⟩ := hv
    exact frozen_of_row w g j cur e hg
theorem obj_own {w : World} {base e size n : Nat} {v : Value} {xs : List Value} (h : w.ownsRow base e size v n xs) (hn : 0 < n) : ∃ g c, v = .slice (some ⟨g, 0, none⟩) n c ∧ base ≤ g ∧ g < w.heap.size := by
  rcases h.2 with ⟨_, h0⟩ | ⟨g, cap, cur, hv, hb, hg, _⟩
  · omega
  · refine ⟨g, cap, hv, hb, ?_⟩
    rcases Nat.lt_or_ge g w.heap.size with hlt | hge
    · exact hlt
    · rw [Array.getElem?_eq_none hge] at hg; cases hg
theorem obj_base (g k : Nat) : (⟨g, 0, none⟩ : Addr).add k = ⟨g, k, none⟩ := by
  unfold Addr.add
  by_cases h : k = 0
  · subst h; rfl
  · rw [if_neg h]; simp
theorem obj_field (g k j : Nat) : (⟨((⟨g, 0, none⟩ : Addr).add (k * 3)).block, ((⟨g, 0, none⟩ : Addr).add (k * 3)).off + j, none⟩ : Addr) = ⟨g, k * 3 + j, none⟩ := by rw [obj_base]
theorem flatO_set (M : List RwO) (r : RwO) (t : Nat) : (flatO (M ++ [r])).set (M.length * 3 + 1) (.int .i64 (t : Nat)) = flatO (M ++ [(r.1, t, r.2.2)]) := by
  rw [flatO_snoc, flatO_snoc, List.set_append, if_neg (by rw [flatO_len]; omega), flatO_len, Nat.add_sub_cancel_left]
  rfl
theorem elt_obj : Elt Try.prog 35 40 (.agg #[.int .i64 0, .int .i64 0, .int .i64 0]) 3 24 := ⟨Try.underlying35, by kernel_rfl, rfl, by decide⟩

/-! The rows of a text. -/
def rowStep (L : List RwO) (x : RwO) : List RwO :=
  match L.getLast? with
  | none => [x]
  | some r => if r.2.2 = x.2.2 then L.dropLast ++ [(r.1, x.2.1, r.2.2)] else L ++ [x]
theorem rowStep_nil (x : RwO) : rowStep [] x = [x] := rfl
theorem rowStep_snoc (M : List RwO) (r x : RwO) : rowStep (M ++ [r]) x = if r.2.2 = x.2.2 then M ++ [(r.1, x.2.1, r.2.2)] else M ++ [r] ++ [x] := by
  unfold rowStep
  rw [List.getLast?_concat, List.dropLast_concat]
/-- sign number i, as a row of its own -/
def signO (L : List (Nat × Nat)) (i : Nat) : RwO := (width (L.take i), width (L.take (i + 1)), clsM L i)
def rowsTo (L : List (Nat × Nat)) : Nat → List RwO
  | 0 => []
  | k + 1 => rowStep (rowsTo L k) (signO L k)
def rowsM (S : List UInt8) : List RwO := rowsTo (chars S) (chars S).length
theorem rowStep_len (L : List RwO) (x : RwO) : (rowStep L x).length ≤ L.length + 1 ∧ 1 ≤ (rowStep L x).length := by
  rcases List.eq_nil_or_concat L with rfl | ⟨M, r, rfl⟩
  · exact ⟨Nat.le_refl _, Nat.le_refl _⟩
  · rw [List.concat_eq_append, rowStep_snoc]
    split <;> simp
theorem rowsTo_len (L : List (Nat × Nat)) (k : Nat) : (rowsTo L k).length ≤ k ∧ (0 < k → 1 ≤ (rowsTo L k).length) := by
  induction k with
  | zero => exact ⟨Nat.le_refl _, fun h => absurd h (Nat.lt_irrefl _)⟩
  | succ k ih =>
    have := rowStep_len (rowsTo L k) (signO L k)
    refine ⟨?_, fun _ => this.2⟩
    show (rowStep (rowsTo L k) (signO L k)).length ≤ k + 1
    omega
end Go.Proofs.Ytnkhlallnblfmaa

/-
  The document's Rows: layer 13.
-/
namespace Go.Proofs.Ytnkhlallnblfmaa
open Go.RowKit

set_option maxHeartbeats 4000000 in
theorem refORows_any (S : List UInt8) (hS : S.length ≤ 1000000) (w : World) :
    Calls Try.prog 35 #[.string ⟨S.toArray⟩] w fun e w' => ∃ A c, e = .returned (.slice A (rowsM S).length c) ∧ w'.ownsRow w.heap.size 40 3 (.slice A (rowsM S).length c) (rowsM S).length (flatO (rowsM S)) ∧ Below w.heap.size w w' := by
  have hcl := chars_len S
  go_enter Try.func35, Try.ntmps35
  go_upto_region 3 with (go_at_call 24; refine (refSigns_any S hS _).mono ?_; rintro e w1 ⟨A1, c1, rfl, own1, b1⟩)
  have R1 := Lib.hid (Row.of_own own1)
  have z1 := b1.size
  have HB := Lib.hid (chars_bound S)
  have hwd := width_chars S
  have HWD := Lib.hid hwd
  clear own1 hwd
  generalize hN : (chars S).length = N at *
  have HN := Lib.hid hN
  clear hN
  go_wp2_with fail
  go_loopw [4, 5] (fun v i wr => ∃ (k : Nat) (L : List RwO) (A : Option Addr) (c : Nat), k ≤ N ∧ i = .int .i64 k ∧ v = .slice A L.length c ∧ L.length ≤ k ∧ Hid (L = [] → A = none ∧ c = 0) ∧ Hid (L = rowsTo (chars S) k) ∧ Hid (wr.ownsRow w1.heap.size 40 3 (.slice A L.length c) L.length (flatO L)) ∧ Below w1.heap.size w1 wr) (fun _ i _ => N - (intOf i).toNat)
  case atStart => exact ⟨0, [], none, 0, Nat.zero_le _, rfl, rfl, Nat.le_refl _, fun _ => ⟨rfl, rfl⟩, rfl, World.ownsRow_nil _ _ _ _, Below.refl _ _⟩
  case round =>
    obtain ⟨k, L, A, c, hk, rfl, rfl, hlk, HZL, HL, OWN, hb⟩ := hrel
    have zr := hb.size
    by_cases hkN : k < N
    · have hkN' : (k : Int) < (N : Int) := by omega
      have hk0 : (0 : Int) ≤ (k : Int) := by omega
      have hkc : k < (chars S).length := by have := HN.out; omega
      obtain ⟨ad, rfl, hadb, s0, s1, s2, _⟩ := sign_cells (R1.out.below hb) hkc
      have hbx := HB.out _ (List.getElem_mem hkc)
      have hws := width_succ (chars S) k hkc
      have hwl := width_le_take (chars S) (k + 1)
      rw [HWD.out] at hwl
      have HSG : Hid (signO (chars S) k = (width ((chars S).take k), width ((chars S).take (k + 1)), classL ((chars S)[k]).1)) := by
        show _ = _
        unfold signO clsM
        rw [List.getD_eq_getElem?_getD, List.getElem?_eq_getElem hkc]
        rfl
      have HST : Hid (rowsTo (chars S) (k + 1) = rowStep L (signO (chars S) k)) := by
        show rowStep (rowsTo (chars S) k) _ = _
        rw [HL.out]
      generalize (chars S)[k] = x at *
      generalize width ((chars S).take (k + 1)) = to_ at *
      generalize width ((chars S).take k) = fr at *
      have HC : Hid (∀ wz, Calls Try.prog 28 #[.int .i64 (x.1 : Nat)] wz fun e w' => e = .returned (.int .i64 (classL x.1 : Nat)) ∧ wz = w') := fun wz => refClass_any x.1 hbx.1 wz
      generalize hcx : classL x.1 = cx at *
      clear hcx
      subst hws
      rw [Nat.zero_add] at s0
      rw [HSG.out] at HST
      clear HSG
      have s0d : ∀ n, (wr.drewN n).cell? (ad.add (k * 4)) = some (.int .i64 (fr : Nat)) := fun n => s0
      have s1d : ∀ n, (wr.drewN n).cell? ⟨(ad.add (k * 4)).block, (ad.add (k * 4)).off + 1, none⟩ = some (.int .i64 (x.2 : Nat)) := fun n => s1
      have hsum : ((fr + x.2 : Nat) : Int) = (fr : Int) + (x.2 : Int) := by omega
      have HSUM := Lib.hid hsum
      clear hsum
      have hfb : fr + x.2 ≤ 1000000 := by omega
      rcases List.eq_nil_or_concat L with rfl | ⟨M, r, hLM⟩
      · obtain ⟨rfl, rfl⟩ := HZL.out rfl
        rw [rowStep_nil] at HST
        have HD : Hid (∀ n, (wr.drewN n).ownsRow w1.heap.size 40 3 (.slice none 0 0) 0 []) := fun n => own_keep OWN.out (below_drewN (Below.refl _ wr) n) (Nat.le_refl _)
        go_upto_region 10 with (go_at_call 28; refine (HC.out _).mono ?_; rintro e w4 ⟨rfl, hw⟩; subst w4)
        obtain ⟨i0, hi0, hz0, hz1, hz2⟩ := info_parts elt_obj.hi
        have HWR : Hid (IntKind.i64.wrap ((fr : Int) + (x.2 : Int)) = (fr : Int) + (x.2 : Int)) := IntWalk.i64_in _ (by omega)
        have AW : Hid ((Value.slice none 0 0).ownBlock ≠ some (ad.add (k * 4)).block) := by show _ ≠ _; simp [Value.ownBlock]
        have hadl : (ad.add (k * 4)).block < wr.heap.size := by rw [add_block]; omega
        have HSS : Hid (∀ wx, Below wr.heap.size wr wx → wx.cell? (ad.add (k * 4)) = some (.int .i64 (fr : Nat)) ∧ wx.cell? ⟨(ad.add (k * 4)).block, (ad.add (k * 4)).off + 1, none⟩ = some (.int .i64 (x.2 : Nat))) := fun wx hbx => ⟨(hbx.cell (p := ad.add (k * 4)) hadl).trans s0, (hbx.cell (p := ⟨(ad.add (k * 4)).block, (ad.add (k * 4)).off + 1, none⟩) hadl).trans s1⟩
        go_region_held_law (fun w' => w'.cell? (ad.add (k * 4)) = some (.int .i64 (fr : Nat)) ∧ w'.cell? ⟨(ad.add (k * 4)).block, (ad.add (k * 4)).off + 1, none⟩ = some (.int .i64 (x.2 : Nat)))
          (first
            | go_keep
            | exact ⟨(hgrow.cell_far (ad.add (k * 4)) (Nat.lt_of_lt_of_le hadl (by simp)) (Ne.symm AW.out)).trans (HSS.out _ ((Below.refl _ wr).alloc (Nat.le_refl _) _)).1, (hgrow.cell_far ⟨(ad.add (k * 4)).block, (ad.add (k * 4)).off + 1, none⟩ (Nat.lt_of_lt_of_le hadl (by simp)) (Ne.symm AW.out)).trans (HSS.out _ ((Below.refl _ wr).alloc (Nat.le_refl _) _)).2⟩)
          ((refine step_append_lies _ (by rfl) _ _ _ (by rfl) w1.heap.size 40 i0 _ 3 24 Try.underlying35 hi0 hz0 hz1 hz2 rfl (by omega) ((Value.slice none 0 0)) (0) ([]) (by rfl) ((OWN.out.alloc _).drew)
              ⟨wr.heap.size, 0, none⟩ 1 1 [.int .i64 (fr : Nat), .int .i64 (IntKind.i64.wrap ((fr : Int) + (x.2 : Int))), .int .i64 (cx : Nat)] (by rfl) (by rfl) (World.news_of_block (cs := #[.int .i64 (fr : Nat), .int .i64 (IntKind.i64.wrap ((fr : Int) + (x.2 : Int))), .int .i64 (cx : Nat)]) (t := 40) (fr := (0, 0)) (heap_alloc_new wr (.cells #[.int .i64 (fr : Nat), .int .i64 (IntKind.i64.wrap ((fr : Int) + (x.2 : Int))), .int .i64 (cx : Nat)] 40))) (by simp [Value.oneCell'])
              (by omega) (by unfold maxLen; omega) (by omega) (by simp; omega) (wr.heap.size + 1) (by simp) ?_; intro g5 c5 w5 own5 hgrow hat hlt))
        rw [HWR.out] at own5
        have b5 : Below w1.heap.size wr w5 := (((Below.refl w1.heap.size wr).alloc zr _).drew).grown hgrow (Nat.le_trans zr (by simp)) (fun j hj => by simp [Value.ownBlock] at hj)
        go_wp2_with fail
        go_roundw
        case rel => exact ⟨k + 1, [(fr, fr + x.2, cx)], some ⟨g5, 0, none⟩, c5, by omega, by go_num, rfl, by simp, fun h => (by cases h), by show _ = _; rw [HST.out], by show World.ownsRow _ _ _ _ _ _ _; simpa [flatO, rowV, HSUM.out] using own5, hb.trans b5⟩
        case measure => simp [intOf]; omega
      · rw [List.concat_eq_append] at hLM
        subst hLM
        rw [rowStep_snoc] at HST
        have hlm : (M ++ [r]).length = M.length + 1 := by simp
        rw [hlm] at OWN hlk
        obtain ⟨g, c1, hv, hg1, hg2⟩ := obj_own OWN.out (by omega)
        injection hv with hA _ hc
        subst hA hc
        have hfz := obj_frozen OWN.out (M.length * 3 + 1)
        rw [← obj_field] at hfz
        obtain ⟨ad', e', _, c0, c1', c2'⟩ := obj_at (Row.of_own OWN.out) (k := M.length) (by simp)
        cases e'
        rw [show (M ++ [r])[M.length]'(by simp) = r by simp] at c0 c1' c2'
        have STEP : Hid ((wr.setCell ⟨((⟨g, 0, none⟩ : Addr).add (M.length * 3)).block, ((⟨g, 0, none⟩ : Addr).add (M.length * 3)).off + 1, none⟩ (.int .i64 ((fr : Int) + (x.2 : Int)))).ownsRow w1.heap.size 40 3 (.slice (some ⟨g, 0, none⟩) (M.length + 1) c) (M.length + 1) (flatO (M ++ [(r.1, fr + x.2, r.2.2)]))) := by
          rw [obj_field, ← flatO_set, HSUM.out]
          exact obj_set OWN.out _ _
        have HD : Hid (∀ n, (wr.drewN n).ownsRow w1.heap.size 40 3 (.slice (some ⟨g, 0, none⟩) (M.length + 1) c) (M.length + 1) (flatO (M ++ [r]))) := fun n => own_keep OWN.out (below_drewN (Below.refl _ wr) n) (Nat.le_refl _)
        have HBB : Hid (w1.heap.size ≤ ((⟨g, 0, none⟩ : Addr).add (M.length * 3)).block) := by show _ ≤ _; rw [obj_base]; exact hg1
        have HG1 : Hid (w1.heap.size ≤ (⟨g, 0, none⟩ : Addr).block) := hg1
        clear OWN
        generalize hg : (⟨g, 0, none⟩ : Addr) = ad1 at *
        have HG := Lib.hid hg
        clear hg
        by_cases hrx : r.2.2 = cx
        · rw [if_pos hrx] at HST
          have e1 : ((r.2.2 : Int) == (cx : Int)) = true := by rw [beq_iff_eq]; omega
          clear hrx
          have STEPD : Hid (∀ n, ((wr.drewN n).setCell ⟨(ad1.add (M.length * 3)).block, (ad1.add (M.length * 3)).off + 1, none⟩ (.int .i64 ((fr : Int) + (x.2 : Int)))).ownsRow w1.heap.size 40 3 (.slice (some ad1) (M.length + 1) c) (M.length + 1) (flatO (M ++ [(r.1, fr + x.2, r.2.2)]))) := fun n => by
            rw [← HG.out, obj_field, ← flatO_set, HSUM.out]
            have := HD.out n
            rw [← HG.out] at this
            exact obj_set this _ _
          have hml : (0 : Int) ≤ (M.length : Int) := by omega
          have hml2 : (M.length : Int) < (M.length : Int) + 1 := by omega
          go_upto_region 9 with (go_at_call 28; refine (HC.out _).mono ?_; rintro e w4 ⟨rfl, hw⟩; subst w4)
          refine wp_region_still_tail 14 (by kernel_rfl) (by kernel_rfl) ?_
          simp only [List.take_succ_cons, List.take_zero, List.drop_succ_cons, List.drop_zero]
          change wpStill _ _ (World.drew wr) (fun a' => wpList _ _ _ _ a' (World.drew wr)) _ _
          have t0 : (World.drew wr).cell? (ad.add (k * 4)) = some (.int .i64 (fr : Nat)) := s0
          have t1 : (World.drew wr).cell? ⟨(ad.add (k * 4)).block, (ad.add (k * 4)).off + 1, none⟩ = some (.int .i64 (x.2 : Nat)) := s1
          have u1 : (World.drew wr).cell? ⟨(ad1.add (M.length * 3)).block, (ad1.add (M.length * 3)).off + 1, none⟩ = some (.int .i64 (r.2.1 : Nat)) := c1'
          have uz : (World.drew wr).frozen? ⟨(ad1.add (M.length * 3)).block, (ad1.add (M.length * 3)).off + 1, none⟩ = false := hfz
          have HS1 := Lib.hid (STEPD.out 1)
          have hb1 := below_drewN hb 1
          rw [show wr.drewN 1 = World.drew wr from rfl] at HS1 hb1
          clear s0 s1 s2 s0d s1d HD STEP STEPD c0 c1' c2' hfz
          generalize World.drew wr = wb at *
          repeat still_step
          refine wpStill_nil ?_
          go_wp2_with fail
          go_roundw
          case rel => exact ⟨k + 1, M ++ [(r.1, fr + x.2, r.2.2)], some ad1, c, by omega, by go_num, by simp, by simp; omega, fun h => (by simp at h), by show _ = _; rw [HST.out], by show World.ownsRow _ _ _ _ _ _ _; rw [List.length_append]; exact HS1.out, Below.setCell (p := ⟨(ad1.add (M.length * 3)).block, (ad1.add (M.length * 3)).off + 1, none⟩) hb1 HBB.out _⟩
          case measure => simp [intOf]; omega
        · rw [if_neg hrx] at HST
          have e1 : ((r.2.2 : Int) == (cx : Int)) = false := by rw [beq_eq_false_iff_ne]; omega
          clear hrx STEP
          go_upto_region 10 with (go_at_call 28; refine (HC.out _).mono ?_; rintro e w4 ⟨rfl, hw⟩; subst w4)
          obtain ⟨i0, hi0, hz0, hz1, hz2⟩ := info_parts elt_obj.hi
          have HWR : Hid (IntKind.i64.wrap ((fr : Int) + (x.2 : Int)) = (fr : Int) + (x.2 : Int)) := IntWalk.i64_in _ (by omega)
          have AW : Hid ((Value.slice (some ad1) (M.length + 1) c).ownBlock ≠ some (ad.add (k * 4)).block) := by show (some ad1.block : Option Nat) ≠ _; intro e; injection e with e; rw [add_block] at e; have := HG1.out; omega
          have hadl : (ad.add (k * 4)).block < wr.heap.size := by rw [add_block]; omega
          have HSS : Hid (∀ wx, Below wr.heap.size wr wx → wx.cell? (ad.add (k * 4)) = some (.int .i64 (fr : Nat)) ∧ wx.cell? ⟨(ad.add (k * 4)).block, (ad.add (k * 4)).off + 1, none⟩ = some (.int .i64 (x.2 : Nat))) := fun wx hbx => ⟨(hbx.cell (p := ad.add (k * 4)) hadl).trans s0, (hbx.cell (p := ⟨(ad.add (k * 4)).block, (ad.add (k * 4)).off + 1, none⟩) hadl).trans s1⟩
          go_region_held_law (fun w' => w'.cell? (ad.add (k * 4)) = some (.int .i64 (fr : Nat)) ∧ w'.cell? ⟨(ad.add (k * 4)).block, (ad.add (k * 4)).off + 1, none⟩ = some (.int .i64 (x.2 : Nat)))
            (first
              | go_keep
              | exact ⟨(hgrow.cell_far (ad.add (k * 4)) (Nat.lt_of_lt_of_le hadl (by simp)) (Ne.symm AW.out)).trans (HSS.out _ ((Below.refl _ wr).alloc (Nat.le_refl _) _)).1, (hgrow.cell_far ⟨(ad.add (k * 4)).block, (ad.add (k * 4)).off + 1, none⟩ (Nat.lt_of_lt_of_le hadl (by simp)) (Ne.symm AW.out)).trans (HSS.out _ ((Below.refl _ wr).alloc (Nat.le_refl _) _)).2⟩)
            ((refine step_append_lies _ (by rfl) _ _ _ (by rfl) w1.heap.size 40 i0 _ 3 24 Try.underlying35 hi0 hz0 hz1 hz2 rfl (by omega) ((Value.slice (some ad1) (M.length + 1) c)) (M.length + 1) (flatO (M ++ [r])) (by rfl) (((HD.out 0).alloc _).drew)
                ⟨wr.heap.size, 0, none⟩ 1 1 [.int .i64 (fr : Nat), .int .i64 (IntKind.i64.wrap ((fr : Int) + (x.2 : Int))), .int .i64 (cx : Nat)] (by rfl) (by rfl) (World.news_of_block (cs := #[.int .i64 (fr : Nat), .int .i64 (IntKind.i64.wrap ((fr : Int) + (x.2 : Int))), .int .i64 (cx : Nat)]) (t := 40) (fr := (0, 0)) (heap_alloc_new wr (.cells #[.int .i64 (fr : Nat), .int .i64 (IntKind.i64.wrap ((fr : Int) + (x.2 : Int))), .int .i64 (cx : Nat)] 40))) (by simp [Value.oneCell'])
                (by omega) (by unfold maxLen; omega) (by omega) (by simp; omega) (wr.heap.size + 1) (by simp) ?_; intro g5 c5 w5 own5 hgrow hat hlt))
          rw [HWR.out] at own5
          have b5 : Below w1.heap.size wr w5 := (((Below.refl w1.heap.size wr).alloc zr _).drew).grown hgrow (Nat.le_trans zr (by simp)) (fun j hj => by have h9 : some ad1.block = some j := hj; injection h9 with h9; subst h9; exact HG1.out)
          go_wp2_with fail
          go_roundw
          case rel => exact ⟨k + 1, M ++ [r] ++ [(fr, fr + x.2, cx)], some ⟨g5, 0, none⟩, c5, by omega, by go_num, by simp, by simp; omega, fun h => (by simp at h), by show _ = _; rw [HST.out], by show World.ownsRow _ _ _ _ _ _ _; rw [List.length_append, flatO_snoc (M ++ [r])]; simpa [rowV, HSUM.out] using own5, hb.trans b5⟩
          case measure => simp [intOf]; omega
    · obtain rfl : k = N := by omega
      have HE : Hid (L = rowsM S) := by
        show L = rowsM S
        unfold rowsM
        rw [HN.out]
        exact HL.out
      have hkN' : ¬ (k : Int) < (k : Int) := by omega
      go_wp2_with fail
      go_ret
      exact ⟨A, c, by rw [← HE.out]; rfl, by rw [← HE.out]; exact own_base OWN.out z1, b1.trans (hb.mono z1)⟩
end Go.Proofs.Ytnkhlallnblfmaa

/-
  The document's Brackets: layer 13.
-/
namespace Go.Proofs.Ytnkhlallnblfmaa
open Go.RowKit

/-- one byte on: the pairs so far, and what is open -/
def brStep (o s : UInt8) (b : UInt8) (i : Nat) (st : List RwO × List Nat) : List RwO × List Nat :=
  if b = o then (st.1, st.2 ++ [i]) else if b = s then (match st.2.getLast? with | none => st | some k => (st.1 ++ [(k, i, 0)], st.2.dropLast)) else st
def brTo (S : List UInt8) (o s : UInt8) : Nat → List RwO × List Nat
  | 0 => ([], [])
  | i + 1 => brStep o s (S.getD i 0) i (brTo S o s i)
def bracketsM (S : List UInt8) (o s : UInt8) : List RwO := (brTo S o s S.length).1
theorem brStep_len (o s b : UInt8) (i : Nat) (st : List RwO × List Nat) : (brStep o s b i st).1.length ≤ st.1.length + 1 ∧ (brStep o s b i st).2.length ≤ st.2.length + 1 := by
  unfold brStep
  split
  · simp
  · split
    · split
      · exact ⟨Nat.le_succ _, Nat.le_succ _⟩
      · simp; omega
    · exact ⟨Nat.le_succ _, Nat.le_succ _⟩
theorem brTo_len (S : List UInt8) (o s : UInt8) (i : Nat) : (brTo S o s i).1.length ≤ i ∧ (brTo S o s i).2.length ≤ i := by
  induction i with
  | zero => exact ⟨Nat.le_refl _, Nat.le_refl _⟩
  | succ i ih =>
    have := brStep_len o s (S.getD i 0) i (brTo S o s i)
    show (brStep o s (S.getD i 0) i (brTo S o s i)).1.length ≤ _ ∧ (brStep o s (S.getD i 0) i (brTo S o s i)).2.length ≤ _
    omega
theorem brStep_open {o s b : UInt8} {i : Nat} {L : List RwO} {P : List Nat} (h : b = o) : brStep o s b i (L, P) = (L, P ++ [i]) := if_pos h
theorem brStep_none {o s b : UInt8} {i : Nat} {L : List RwO} (h : b ≠ o) : brStep o s b i (L, []) = (L, []) := by
  unfold brStep
  rw [if_neg h]
  split <;> rfl
theorem brStep_shut {o s b : UInt8} {i k : Nat} {L : List RwO} {P : List Nat} (h : b ≠ o) (h2 : b = s) : brStep o s b i (L, P ++ [k]) = (L ++ [(k, i, 0)], P) := by
  unfold brStep
  rw [if_neg h, if_pos h2]
  simp
theorem brStep_else {o s b : UInt8} {i : Nat} {st : List RwO × List Nat} (h : b ≠ o) (h2 : b ≠ s) : brStep o s b i st = st := by
  unfold brStep
  rw [if_neg h, if_neg h2]
/-- a row of one's own, cut short -/
theorem obj_less {w : World} {base e n c : Nat} {A : Option Addr} {xs : List Value} {x : Value} (h : w.ownsRow base e 1 (.slice A (n + 1) c) (n + 1) (xs ++ [x])) : w.ownsRow base e 1 (.slice A n c) n xs := by
  obtain ⟨hl, h⟩ := h
  rcases h with ⟨_, h0⟩ | ⟨g', cap, cur, hv, hb, hg, hn, hm, hs, ht⟩
  · omega
  · injection hv with h1 h2 h3
    subst h1 h3
    refine ⟨by simpa using hl, .inr ⟨g', c, cur, rfl, hb, hg, by omega, hm, hs, ?_⟩⟩
    have hx : xs.length = n := by simpa using hl
    rw [Nat.mul_one] at ht ⊢
    have := congrArg (List.take n) ht
    rw [List.take_take, Nat.min_eq_left (by omega), List.take_append_of_le_length (by omega), List.take_of_length_le (l := xs) (by omega)] at this
    exact this
theorem obj_cap {w : World} {base e size n n' c : Nat} {A : Option Addr} {xs : List Value} (h : w.ownsRow base e size (.slice A n' c) n xs) : n ≤ c := by
  rcases h.2 with ⟨hv, h0⟩ | ⟨g, cap, cur, hv, _, _, hn, _⟩
  · injection hv with _ _ h3; omega
  · injection hv with _ _ h3; omega
theorem obj_apart {w : World} {base base' e e' size size' n n' : Nat} {v v' : Value} {xs xs' : List Value} (h : w.ownsRow base e size v n xs) (h' : w.ownsRow base' e' size' v' n' xs') (hne : e ≠ e') {g : Nat} (hg : v.ownBlock = some g) : v'.ownBlock ≠ some g := by
  rcases h.2 with ⟨rfl, _⟩ | ⟨g1, cap, cur, rfl, _, h1, _⟩
  · simp [Value.ownBlock] at hg
  · rcases h'.2 with ⟨rfl, _⟩ | ⟨g2, cap', cur', rfl, _, h2, _⟩
    · simp [Value.ownBlock]
    · intro e
      simp [Value.ownBlock] at hg e
      subst hg e
      rw [h1] at h2
      simp at h2
      exact hne h2.2
theorem obj_same {w w' : World} {base e size n : Nat} {v : Value} {xs : List Value} (h : w.ownsRow base e size v n xs) (hw : ∀ g, v.ownBlock = some g → w'.heap[g]? = w.heap[g]?) : w'.ownsRow base e size v n xs := by
  refine ⟨h.1, ?_⟩
  rcases h.2 with h | ⟨g, cap, cur, rfl, hb, hg, h⟩
  · exact .inl h
  · exact .inr ⟨g, cap, cur, rfl, hb, (hw g (by simp [Value.ownBlock])).trans hg, h⟩
set_option maxHeartbeats 4000000 in
theorem refOBrackets_any (S : List UInt8) (hS : S.length ≤ 1000000) (o s : UInt8) (w : World) :
    Calls Try.prog 19 #[.string ⟨S.toArray⟩, .int .u8 (o.toNat : Nat), .int .u8 (s.toNat : Nat)] w fun e w' => ∃ A c, e = .returned (.slice A (bracketsM S o s).length c) ∧ w'.ownsRow w.heap.size 40 3 (.slice A (bracketsM S o s).length c) (bracketsM S o s).length (flatO (bracketsM S o s)) ∧ Below w.heap.size w w' := by
  go_enter Try.func19, Try.ntmps19
  go_wp2_with fail
  go_loopw [7, 8, 9] (fun v p i wr => ∃ (k : Nat) (L : List RwO) (P : List Nat) (A : Option Addr) (c : Nat) (A2 : Option Addr) (c2 : Nat), k ≤ S.length ∧ i = .int .i64 k ∧ v = .slice A L.length c ∧ p = .slice A2 P.length c2 ∧ L.length ≤ k ∧ P.length ≤ k ∧ (∀ x ∈ P, x < k) ∧ Hid ((L, P) = brTo S o s k) ∧
      Hid (wr.ownsRow w.heap.size 40 3 (.slice A L.length c) L.length (flatO L)) ∧ Hid (wr.ownsRow w.heap.size 3 1 (.slice A2 P.length c2) P.length (P.map intn)) ∧ Below w.heap.size w wr) (fun _ _ i _ => S.length - (intOf i).toNat)
  case atStart => exact ⟨0, [], [], none, 0, none, 0, Nat.zero_le _, rfl, rfl, rfl, Nat.le_refl _, Nat.le_refl _, fun x hx => by simp at hx, rfl, World.ownsRow_nil _ _ _ _, World.ownsRow_nil _ _ _ _, Below.refl _ _⟩
  case round =>
    obtain ⟨k, L, P, A, c, A2, c2, hk, rfl, rfl, rfl, hlk, hpk, hpx, HST, OW, OP, hb⟩ := hrel
    have zr := hb.size
    by_cases hlt : k < S.length
    · have hlt' : (k : Int) < (S.length : Int) := by omega
      have hk0 : (0 : Int) ≤ (k : Int) := by omega
      have hby := byte_at S k hlt
      have HNX : Hid (brTo S o s (k + 1) = brStep o s S[k] k (L, P)) := by
        show brStep o s (S.getD k 0) k (brTo S o s k) = _
        rw [← HST.out, List.getD_eq_getElem?_getD, List.getElem?_eq_getElem hlt]
        rfl
      have HPX := Lib.hid hpx
      clear hpx
      generalize S[k] = b at *
      by_cases ho : b = o
      · have e1 : ((b.toNat : Int) == (o.toNat : Int)) = true := by rw [ho]; simp
        rw [brStep_open ho] at HNX
        clear ho
        go_wp2_with (at_builtin; refine wpList_pushN rfl _ _ _ rfl w.heap.size 3 _ 1 8 elt_int 3 (.slice A2 P.length c2) P.length _ rfl OP.out [.int .i64 (k : Nat)] _ rfl rfl rfl (by simp [Value.oneCell']) (by unfold maxLen; omega) (by omega) (by omega) ?_; intro v5 w5 own5 b5 far5; obtain ⟨A5, c5, rfl⟩ := own_form own5)
        go_roundw
        case rel => exact ⟨k + 1, L, P ++ [k], A, c, A5, c5, by omega, by go_num, rfl, by simp, by omega, by simp; omega, fun x hx => (by rcases List.mem_append.1 hx with hx | hx; have := HPX.out x hx; omega; rw [List.mem_singleton.1 hx]; omega), by show _ = _; rw [HNX.out], obj_same OW.out (fun g hg => far5 g (OW.out.lt g hg).2 (obj_apart OW.out OP.out (by decide) hg)), by show World.ownsRow _ _ _ _ _ _ _; rw [List.length_append, List.map_append]; exact own5, hb.trans b5⟩
        case measure => simp [intOf]; omega
      · have e1 : ((b.toNat : Int) == (o.toNat : Int)) = false := by
          rw [beq_eq_false_iff_ne]
          intro e
          exact ho (UInt8.toNat_inj.1 (by omega))
        by_cases hs : b = s
        · have e2 : ((b.toNat : Int) == (s.toNat : Int)) = true := by rw [hs]; simp
          rcases List.eq_nil_or_concat P with rfl | ⟨Q, x, hPQ⟩
          · rw [brStep_none ho] at HNX
            clear ho hs
            go_wp2_with fail
            go_roundw
            case rel => exact ⟨k + 1, L, [], A, c, A2, c2, by omega, by go_num, rfl, rfl, by omega, by simp, fun x hx => (by simp at hx), by show _ = _; rw [HNX.out], OW, OP, hb⟩
            case measure => simp [intOf]; omega
          · rw [List.concat_eq_append] at hPQ
            subst hPQ
            rw [brStep_shut ho hs] at HNX
            clear ho hs
            have hlq : (Q ++ [x]).length = Q.length + 1 := by simp
            rw [hlq] at OP hpk
            obtain ⟨g, c1, hv, hg1, hg2⟩ := obj_own OP.out (by omega)
            injection hv with hA _ hc
            subst hA hc
            have vq : wr.cell? ⟨g, Q.length, none⟩ = some (.int .i64 (x : Nat)) := by
              have := (OP.out.cells (g := g) rfl) Q.length (.int .i64 (x : Nat)) (by simp [intn])
              rwa [obj_base] at this
            have OQ := Lib.hid (obj_less (x := intn x) (by rw [List.map_append] at OP; exact OP.out))
            have hcap : Q.length + 1 ≤ c2 := obj_cap OP.out
            have hcap' : (Q.length : Int) ≤ (c2 : Int) := by omega
            have hq0 : (0 : Int) ≤ (Q.length : Int) := by omega
            have hx := HPX.out x (by simp)
            have AP := Lib.hid (fun j hj => obj_apart OQ.out OW.out (by decide) (g := j) hj)
            go_wp2_with (at_builtin; refine wpList_pushN rfl _ _ _ rfl w.heap.size 40 _ 3 24 elt_obj 40 (.slice A L.length c) L.length _ rfl OW.out [.int .i64 (x : Nat), .int .i64 (k : Nat), .int .i64 0] _ rfl rfl rfl (by simp [Value.oneCell']) (by unfold maxLen; omega) (by omega) (by omega) ?_; intro v5 w5 own5 b5 far5; obtain ⟨A5, c5, rfl⟩ := own_form own5)
            go_roundw
            case rel => exact ⟨k + 1, L ++ [(x, k, 0)], Q, A5, c5, some ⟨g, 0, none⟩, c2, by omega, by go_num, by simp, rfl, by simp; omega, by omega, fun y hy => (by have := HPX.out y (by simp [hy]); omega), by show _ = _; rw [HNX.out], by show World.ownsRow _ _ _ _ _ _ _; rw [List.length_append, flatO_snoc]; exact own5, obj_same OQ.out (fun j hj => far5 j (OQ.out.lt j hj).2 (AP.out j hj)), hb.trans b5⟩
            case measure => simp [intOf]; omega
        · have e2 : ((b.toNat : Int) == (s.toNat : Int)) = false := by
            rw [beq_eq_false_iff_ne]
            intro e
            exact hs (UInt8.toNat_inj.1 (by omega))
          rw [brStep_else ho hs] at HNX
          clear ho hs
          go_wp2_with fail
          go_roundw
          case rel => exact ⟨k + 1, L, P, A, c, A2, c2, by omega, by go_num, rfl, rfl, by omega, by omega, fun x hx => (by have := HPX.out x hx; omega), by show _ = _; rw [HNX.out], OW, OP, hb⟩
          case measure => simp [intOf]; omega
    · obtain rfl : k = S.length := by omega
      have HE : Hid (L = bracketsM S o s) := by
        show L = bracketsM S o s
        unfold bracketsM
        rw [← HST.out]
      have hlt' : ¬ (S.length : Int) < (S.length : Int) := by omega
      go_wp2_with fail
      go_ret
      exact ⟨A, c, by rw [← HE.out]; rfl, by rw [← HE.out]; exact OW.out, hb⟩
end Go.Proofs.Ytnkhlallnblfmaa

/-
  The document's quotes, between: layer 13.
-/
namespace Go.Proofs.Ytnkhlallnblfmaa
open Go.RowKit

/-- one byte on: the pairs so far, and what is open -/
def quStep (q : UInt8) (b : UInt8) (i : Nat) (st : List RwO × Option Nat) : List RwO × Option Nat :=
  if b = q then (match st.2 with | some k => (st.1 ++ [(k, i, 0)], none) | none => (st.1, some i)) else st
def quTo (S : List UInt8) (q : UInt8) (f : Nat) : Nat → List RwO × Option Nat
  | 0 => ([], none)
  | j + 1 => quStep q (S.getD (f + j) 0) (f + j) (quTo S q f j)
def quotesM (S : List UInt8) (n : Int) (q : UInt8) : List RwO := (quTo S q (boundsL S n).1.1 ((boundsL S n).1.2 - (boundsL S n).1.1)).1
def openI : Option Nat → Int
  | none => -1
  | some k => (k : Nat)
theorem bounds_le (S : List UInt8) (n : Int) : (boundsL S n).1.1 ≤ (boundsL S n).1.2 ∧ (boundsL S n).1.2 ≤ S.length := by
  by_cases h : 0 ≤ n ∧ n < (countL S : Int)
  · obtain ⟨m, rfl⟩ : ∃ m : Nat, n = m := ⟨n.toNat, by omega⟩
    have hm : m < countL S := by omega
    rw [boundsL_nat hm]
    exact ⟨beg_end hm, end_le hm⟩
  · rw [boundsL_out h]
    exact ⟨Nat.le_refl _, Nat.zero_le _⟩
set_option maxHeartbeats 4000000 in
theorem refOQuotes_any (S : List UInt8) (hS : S.length ≤ 1000000) (n : Int) (q : UInt8) (w : World) :
    Calls Try.prog 20 #[.string ⟨S.toArray⟩, .int .i64 n, .int .u8 (q.toNat : Nat)] w fun e w' => ∃ A c, e = .returned (.slice A (quotesM S n q).length c) ∧ w'.ownsRow w.heap.size 40 3 (.slice A (quotesM S n q).length c) (quotesM S n q).length (flatO (quotesM S n q)) ∧ Below w.heap.size w w' := by
  obtain ⟨hft, htl⟩ := bounds_le S n
  obtain ⟨Q, hQ⟩ : ∃ Q, quotesM S n q = Q := ⟨_, rfl⟩
  rw [hQ]
  unfold quotesM at hQ
  obtain ⟨bd, hbd⟩ : ∃ x, boundsL S n = x := ⟨_, rfl⟩
  obtain ⟨⟨f, t⟩, er⟩ := bd
  rw [hbd] at hft htl hQ
  have hft' : f ≤ t := hft
  have htl' : t ≤ S.length := htl
  have HBD := Lib.hid hbd
  have HQ : Hid ((quTo S q f (t - f)).1 = Q) := hQ
  clear hft htl hbd hQ
  go_enter Try.func20, Try.ntmps20
  go_wp2_with (go_at_call 36; refine (refBounds_any S hS n _).mono ?_; rw [HBD.out]; rintro e w1 ⟨rfl, b1⟩)
  have z1 := b1.size
  go_loopw [10, 11, 12] (fun v p i wr => ∃ (j : Nat) (L : List RwO) (P : Option Nat) (A : Option Addr) (c : Nat), f + j ≤ t ∧ i = .int .i64 ((f + j : Nat) : Int) ∧ v = .slice A L.length c ∧ p = .int .i64 (openI P) ∧ L.length ≤ j ∧ Hid (∀ x, P = some x → x < f + j) ∧ Hid ((L, P) = quTo S q f j) ∧
      Hid (wr.ownsRow w.heap.size 40 3 (.slice A L.length c) L.length (flatO L)) ∧ Below w.heap.size w wr) (fun _ _ i _ => t - (intOf i).toNat)
  case atStart => exact ⟨0, [], none, none, 0, hft', rfl, rfl, rfl, Nat.le_refl _, fun x hx => (by cases hx), rfl, World.ownsRow_nil _ _ _ _, b1⟩
  case round =>
    clear b1 z1
    obtain ⟨j, L, P, A, c, hj, rfl, rfl, rfl, hlj, HPX, HST, OW, hb⟩ := hrel
    have zr := hb.size
    obtain ⟨k, hk⟩ : ∃ k, f + j = k := ⟨_, rfl⟩
    rw [hk] at hj HPX ⊢
    by_cases hlt : k < t
    · have hlt' : (k : Int) < (t : Int) := by omega
      have hk0 : (0 : Int) ≤ (k : Int) := by omega
      have hkS : k < S.length := by omega
      have hkS' : (k : Int) < (S.length : Int) := by omega
      have hby := byte_at S k hkS
      have HNX : Hid (quTo S q f (j + 1) = quStep q S[k] k (L, P)) := by
        show quStep q (S.getD (f + j) 0) (f + j) (quTo S q f j) = _
        rw [← HST.out, hk, List.getD_eq_getElem?_getD, List.getElem?_eq_getElem hkS]
        rfl
      have HK := Lib.hid hk
      have hj1 : f + (j + 1) = k + 1 := by omega
      have HJ1 := Lib.hid hj1
      have hjk : j ≤ k := by omega
      clear hj1 hk
      generalize S[k] = b at *
      by_cases hq : b = q
      · have e1 : ((b.toNat : Int) != (q.toNat : Int)) = false := by rw [hq]; simp
        rcases P with _ | x
        · have hst : quStep q b k (L, none) = (L, some k) := if_pos hq
          rw [hst] at HNX
          clear hst hq
          have ho : openI none = -1 := rfl
          rw [ho]
          go_wp2_with fail
          go_roundw
          case rel => exact ⟨j + 1, L, some k, A, c, by have := HJ1.out; omega, by rw [HJ1.out]; go_num, rfl, rfl, by omega, fun x hx => (by have := HJ1.out; injection hx with hx; omega), by show _ = _; rw [HNX.out], OW, hb⟩
          case measure => simp [intOf]; omega
        · have hst : quStep q b k (L, some x) = (L ++ [(x, k, 0)], none) := if_pos hq
          rw [hst] at HNX
          clear hst hq
          have hx := HPX.out x rfl
          have ho : openI (some x) = (x : Int) := rfl
          rw [ho]
          have hx0 : (0 : Int) ≤ (x : Int) := by omega
          go_wp2_with (at_builtin; refine wpList_pushN rfl _ _ _ rfl w.heap.size 40 _ 3 24 elt_obj 40 (.slice A L.length c) L.length _ rfl OW.out [.int .i64 (x : Nat), .int .i64 (k : Nat), .int .i64 0] _ rfl rfl rfl (by simp [Value.oneCell']) (by unfold maxLen; omega) (by omega) (by omega) ?_; intro v5 w5 own5 b5 _; obtain ⟨A5, c5, rfl⟩ := own_form own5)
          go_roundw
          case rel => exact ⟨j + 1, L ++ [(x, k, 0)], none, A5, c5, by have := HJ1.out; omega, by rw [HJ1.out]; go_num, by simp, rfl, by simp; omega, fun x hx => (by cases hx), by show _ = _; rw [HNX.out], by show World.ownsRow _ _ _ _ _ _ _; rw [List.length_append, flatO_snoc]; exact own5, hb.trans b5⟩
          case measure => simp [intOf]; omega
      · have e1 : ((b.toNat : Int) != (q.toNat : Int)) = true := by
          rw [bne_iff_ne]
          intro e
          exact hq (UInt8.toNat_inj.1 (by omega))
        have hst : quStep q b k (L, P) = (L, P) := if_neg hq
        rw [hst] at HNX
        clear hst hq
        obtain ⟨oi, hoi⟩ : ∃ x, openI P = x := ⟨_, rfl⟩
        rw [hoi]
        have HOI := Lib.hid hoi
        clear hoi
        go_wp2_with fail
        go_roundw
        case rel => exact ⟨j + 1, L, P, A, c, by have := HJ1.out; omega, by rw [HJ1.out]; go_num, rfl, by rw [HOI.out], by omega, fun x hx => (by have := HPX.out x hx; have := HJ1.out; omega), by show _ = _; rw [HNX.out], OW, hb⟩
        case measure => simp [intOf]; omega
    · have hke : k = t := by omega
      have HE : Hid (L = Q) := by
        show L = Q
        rw [← HQ.out, show t - f = j by omega, ← HST.out]
      have hlt' : ¬ (k : Int) < (t : Int) := by omega
      go_wp2_with fail
      go_ret
      exact ⟨A, c, by rw [← HE.out]; rfl, by rw [← HE.out]; exact OW.out, hb⟩
end Go.Proofs.Ytnkhlallnblfmaa

/-
  The document's about: layer 13.
-/
namespace Go.Proofs.Ytnkhlallnblfmaa
open Go.RowKit

def aboStep (a : Nat) (best : Option RwO) (r : RwO) : Option RwO := if r.1 ≤ a ∧ a ≤ r.2.1 ∧ (∀ b, best = some b → b.1 < r.1) then some r else best
def aboutM (l : List RwO) (a : Nat) : Option RwO := l.foldl (aboStep a) none
theorem about_take {l : List RwO} {a k : Nat} (hk : k < l.length) : aboutM (l.take (k + 1)) a = aboStep a (aboutM (l.take k) a) l[k] := by
  unfold aboutM
  rw [List.take_succ_eq_append_getElem hk, List.foldl_append]
  rfl
/-- a row, and whether there is one -/
def GivesRB (w : World) (r : Option RwO) (e : Ending) (w' : World) : Prop := e = .returned (.tuple #[.agg (rowV (r.getD (0, 0, 0))).toArray, .bool r.isSome]) ∧ Below w.heap.size w w'
theorem obj_size : (Try.prog.info? 40).map (·.size) = some 3 := by kernel_rfl
theorem obj_facts : (∃ fs, Try.prog.underlying 40 = some (.struct fs)) := ⟨_, Try.underlying40⟩
theorem ret_row {fn : Func} {p u : Tmp} (h : fn.results = #[.cell p 40, .tmp u]) (a : Act) (w : World) (g : Nat) (x y z : Value) (hp : a.tmps.getD p undef = .pointer (some ⟨g, 0, none⟩)) (hg : Blk w g 40 #[x, y, z]) (hd : a.defers = [])
    {Q : Ending → World → Prop} (hQ : Q (.returned (.tuple #[.agg #[x, y, z], a.tmps.getD u undef])) w) : bodyPost Try.prog fn Q .ret a w := by
  obtain ⟨fs, hu⟩ := obj_facts
  refine bodyPost_ret (v := .tuple #[.agg #[x, y, z], a.tmps.getD u undef]) ?_ hd hQ
  have hp' : a.tmps[p]?.getD undef = .pointer (some ⟨g, 0, none⟩) := by simpa using hp
  rw [results_cell_tmp h]
  simp [hp', asAddr, run_loadVar_row w g 40 40 #[x, y, z] (0, 0) _ hg hu rfl obj_size]
set_option maxHeartbeats 8000000 in
theorem refOAbout_any (A : Option Addr) (c B : Nat) (l : List RwO) (hl : l.length ≤ 1000001) (hlx : ∀ x ∈ l, x.1 ≤ 1000000 ∧ x.2.1 ≤ 1000000) (a : Nat) (_ha : a ≤ 1000000) (w : World) (hB : B ≤ w.heap.size) (h : Row w B A (flatO l)) :
    Calls Try.prog 22 #[.slice A l.length c, .int .i64 (a : Nat)] w (GivesRB w (aboutM l a)) := by
  go_enter Try.func22, Try.ntmps22
  go_upto_region 3 with fail
  have k4 : Blk ((w.alloc (.cells #[.int .i64 0, .int .i64 0, .int .i64 0] 40)).alloc (.cells #[.int .i64 0, .int .i64 0, .int .i64 0] 40)) w.heap.size 40 #[.int .i64 0, .int .i64 0, .int .i64 0] := (Blk.new _ _ _).alloc _
  have k6 : Blk ((w.alloc (.cells #[.int .i64 0, .int .i64 0, .int .i64 0] 40)).alloc (.cells #[.int .i64 0, .int .i64 0, .int .i64 0] 40)) (w.heap.size + 1) 40 #[.int .i64 0, .int .i64 0, .int .i64 0] := by
    have := Blk.new (w.alloc (.cells #[.int .i64 0, .int .i64 0, .int .i64 0] 40)) 40 #[.int .i64 0, .int .i64 0, .int .i64 0]
    simpa using this
  have b2 : Below w.heap.size w ((w.alloc (.cells #[.int .i64 0, .int .i64 0, .int .i64 0] 40)).alloc (.cells #[.int .i64 0, .int .i64 0, .int .i64 0] 40)) := ((Below.refl _ w).alloc (Nat.le_refl _) _).alloc (by simp) _
  generalize (w.alloc (.cells #[.int .i64 0, .int .i64 0, .int .i64 0] 40)).alloc (.cells #[.int .i64 0, .int .i64 0, .int .i64 0] 40) = w2 at *
  obtain ⟨g6, h6⟩ : ∃ g, w.heap.size + 1 = g := ⟨_, rfl⟩
  obtain ⟨g4, h4⟩ : ∃ g, w.heap.size = g := ⟨_, rfl⟩
  have hg6 : w.heap.size ≤ g6 := by omega
  have hg46 : g4 ≠ g6 := by omega
  have hg44 : w.heap.size ≤ g4 := by omega
  rw [h6, h4]
  rw [h6] at k6
  rw [h4] at k4
  clear h6 h4
  go_loopw [7, 8] (fun is_ i wr => ∃ (k : Nat) (best : Option RwO), k ≤ l.length ∧ i = .int .i64 k ∧ is_ = .bool best.isSome ∧ Hid (best = aboutM (l.take k) a) ∧ Blk wr g4 40 #[.int .i64 0, .int .i64 0, .int .i64 0] ∧ Blk wr g6 40 (rowV (best.getD (0, 0, 0))).toArray ∧ Below w.heap.size w wr) (fun _ i _ => l.length - (intOf i).toNat)
  case atStart => exact ⟨0, none, Nat.zero_le _, rfl, rfl, rfl, k4, k6, b2⟩
  case round =>
    clear k4 k6 b2
    obtain ⟨k, best, hk, rfl, rfl, HB, k4, k6, hb⟩ := hrel
    have zr := hb.size
    by_cases hlt : k < l.length
    · have hlt' : (k : Int) < (l.length : Int) := by omega
      have hk0 : (0 : Int) ≤ (k : Int) := by omega
      obtain ⟨ad, rfl, hadb, c0, c1, c2⟩ := obj_at (h.below (hb.mono hB)) hlt
      have HS := Lib.hid (about_take (a := a) hlt)
      rw [← HB.out] at HS
      obtain ⟨hx1, hx2⟩ := hlx _ (List.getElem_mem hlt)
      generalize l[k] = r at *
      have c0d : ∀ n, (wr.drewN n).cell? (ad.add (k * 3)) = some (.int .i64 (r.1 : Nat)) := fun n => c0
      have c1d : ∀ n, (wr.drewN n).cell? ⟨(ad.add (k * 3)).block, (ad.add (k * 3)).off + 1, none⟩ = some (.int .i64 (r.2.1 : Nat)) := fun n => c1
      by_cases h1 : r.1 ≤ a
      · by_cases h2 : a ≤ r.2.1
        · have h1' : (r.1 : Int) ≤ (a : Int) := by omega
          have h2' : (a : Int) ≤ (r.2.1 : Int) := by omega
          rcases best with _ | b
          · have hs : aboStep a none r = some r := if_pos ⟨h1, h2, fun b hb => by cases hb⟩
            rw [hs] at HS
            clear h1 h2 hs
            go_upto_region 5 with fail
            go_quiet (fail)
            have k4n := k4.drewN nq
            have k6n := k6.drewN nq
            have hbn := below_drewN hb nq
            have c2d : (wr.drewN nq).cell? ⟨(ad.add (k * 3)).block, (ad.add (k * 3)).off + 2, none⟩ = some (.int .i64 (r.2.2 : Nat)) := c2
            go_wp2_with ((with_reducible refine at_store 40 (.tmp 6) (.tmp 49) ?_); refine wpList_setRow rfl 40 (.tmp 6) (.tmp 49) rfl g6 #[.int .i64 (r.1 : Nat), .int .i64 (r.2.1 : Nat), .int .i64 (r.2.2 : Nat)] rfl rfl 40 _ k6n obj_size rfl (by simp [Value.oneCell']) ?_; intro w5 k65 hg5)
            go_roundw
            case rel => exact ⟨k + 1, some r, by omega, by go_num, rfl, by show _ = _; rw [HS.out], k4n.grown hg5 hg46, k65, hbn.grown hg5 hbn.size (fun j hj => by injection hj with hj; omega)⟩
            case measure => simp [intOf]; omega
          · have d0d : ∀ n, (wr.drewN n).cell? ⟨g6, 0, none⟩ = some (.int .i64 (b.1 : Nat)) := fun n => k6.cell 0
            by_cases h3 : b.1 < r.1
            · have hs : aboStep a (some b) r = some r := if_pos ⟨h1, h2, fun y hy => by injection hy with hy; subst hy; exact h3⟩
              rw [hs] at HS
              have h3' : (b.1 : Int) < (r.1 : Int) := by omega
              clear h1 h2 h3 hs
              go_upto_region 5 with fail
              go_quiet (fail)
              have k4n := k4.drewN nq
              have k6n := k6.drewN nq
              have hbn := below_drewN hb nq
              have c2d : (wr.drewN nq).cell? ⟨(ad.add (k * 3)).block, (ad.add (k * 3)).off + 2, none⟩ = some (.int .i64 (r.2.2 : Nat)) := c2
              go_wp2_with ((with_reducible refine at_store 40 (.tmp 6) (.tmp 49) ?_); refine wpList_setRow rfl 40 (.tmp 6) (.tmp 49) rfl g6 #[.int .i64 (r.1 : Nat), .int .i64 (r.2.1 : Nat), .int .i64 (r.2.2 : Nat)] rfl rfl 40 _ k6n obj_size rfl (by simp [Value.oneCell']) ?_; intro w5 k65 hg5)
              go_roundw
              case rel => exact ⟨k + 1, some r, by omega, by go_num, rfl, by show _ = _; rw [HS.out], k4n.grown hg5 hg46, k65, hbn.grown hg5 hbn.size (fun j hj => by injection hj with hj; omega)⟩
              case measure => simp [intOf]; omega
            · have hs : aboStep a (some b) r = some b := if_neg (fun hh => h3 (hh.2.2 b rfl))
              rw [hs] at HS
              have h3' : ¬ (b.1 : Int) < (r.1 : Int) := by omega
              clear h1 h2 h3 hs
              go_upto_region 5 with fail
              go_quiet (fail)
              go_wp2_with fail
              go_roundw
              case rel => exact ⟨k + 1, some b, by omega, by go_num, rfl, by show _ = _; rw [HS.out], k4.drewN _, k6.drewN _, below_drewN hb _⟩
              case measure => simp [intOf]; omega
        · have hs : aboStep a best r = best := if_neg (fun hh => h2 hh.2.1)
          rw [hs] at HS
          have h1' : (r.1 : Int) ≤ (a : Int) := by omega
          have h2' : ¬ (a : Int) ≤ (r.2.1 : Int) := by omega
          clear h1 h2 hs
          go_upto_region 5 with fail
          go_quiet (fail)
          go_wp2_with fail
          go_roundw
          case rel => exact ⟨k + 1, best, by omega, by go_num, rfl, by show _ = _; rw [HS.out], k4.drewN _, k6.drewN _, below_drewN hb _⟩
          case measure => simp [intOf]; omega
      · have hs : aboStep a best r = best := if_neg (fun hh => h1 hh.1)
        rw [hs] at HS
        have h1' : ¬ (r.1 : Int) ≤ (a : Int) := by omega
        clear h1 hs
        go_upto_region 5 with fail
        go_quiet (fail)
        go_wp2_with fail
        go_roundw
        case rel => exact ⟨k + 1, best, by omega, by go_num, rfl, by show _ = _; rw [HS.out], k4.drewN _, k6.drewN _, below_drewN hb _⟩
        case measure => simp [intOf]; omega
    · obtain rfl : k = l.length := by omega
      have HE : Hid (best = aboutM l a) := by
        show best = _
        rw [HB.out, List.take_length]
      have hlt' : ¬ (l.length : Int) < (l.length : Int) := by omega
      rcases best with _ | b
      · have m0 : wr.cell? ⟨g6, 0, none⟩ = some (.int .i64 0) := k6.cell 0
        have m1 : wr.cell? ⟨g6, 1, none⟩ = some (.int .i64 0) := k6.cell 1
        have m2 : wr.cell? ⟨g6, 2, none⟩ = some (.int .i64 0) := k6.cell 2
        go_wp2_with ((with_reducible refine at_store 40 (.tmp 4) (.tmp 50) ?_); refine wpList_setRow rfl 40 (.tmp 4) (.tmp 50) rfl g4 #[.int .i64 0, .int .i64 0, .int .i64 0] rfl rfl 40 _ k4 obj_size rfl (by simp [Value.oneCell']) ?_; intro w5 k45 hg5)
        refine ret_row (p := 4) (u := 5) rfl _ _ g4 _ _ _ rfl k45 rfl ?_
        exact ⟨by rw [← HE.out]; rfl, hb.grown hg5 hb.size (fun j hj => by injection hj with hj; omega)⟩
      · have m0 : wr.cell? ⟨g6, 0, none⟩ = some (.int .i64 (b.1 : Nat)) := k6.cell 0
        have m1 : wr.cell? ⟨g6, 1, none⟩ = some (.int .i64 (b.2.1 : Nat)) := k6.cell 1
        have m2 : wr.cell? ⟨g6, 2, none⟩ = some (.int .i64 (b.2.2 : Nat)) := k6.cell 2
        go_wp2_with ((with_reducible refine at_store 40 (.tmp 4) (.tmp 50) ?_); refine wpList_setRow rfl 40 (.tmp 4) (.tmp 50) rfl g4 #[.int .i64 (b.1 : Nat), .int .i64 (b.2.1 : Nat), .int .i64 (b.2.2 : Nat)] rfl rfl 40 _ k4 obj_size rfl (by simp [Value.oneCell']) ?_; intro w5 k45 hg5)
        refine ret_row (p := 4) (u := 5) rfl _ _ g4 _ _ _ rfl k45 rfl ?_
        exact ⟨by rw [← HE.out]; rfl, hb.grown hg5 hb.size (fun j hj => by injection hj with hj; omega)⟩
end Go.Proofs.Ytnkhlallnblfmaa

/-
  The document's between: layer 13.
-/
namespace Go.Proofs.Ytnkhlallnblfmaa
open Go.RowKit

def betweenM (r : Option RwO) (around : Bool) : Option (Nat × Nat) := r.map fun x => if around = true then (x.1, x.2.1 + 1) else (x.1 + 1, x.2.1)
set_option maxHeartbeats 2000000 in
theorem refOBetween_any (r : Option RwO) (hr : ∀ x, r = some x → x.1 ≤ 1000000 ∧ x.2.1 ≤ 1000000) (around : Bool) (w : World) :
    Calls Try.prog 23 #[.agg (rowV (r.getD (0, 0, 0))).toArray, .bool r.isSome, .bool around] w (GivesIIB w (betweenM r around)) := by
  rcases r with _ | x
  · have hb : Below w.heap.size w (w.alloc (.cells #[.int .i64 0, .int .i64 0, .int .i64 0] 40)) := (Below.refl _ w).alloc (Nat.le_refl _) _
    show Calls Try.prog 23 #[.agg #[.int .i64 0, .int .i64 0, .int .i64 0], .bool false, .bool around] w (GivesIIB w none)
    go_enter Try.func23, Try.ntmps23
    go_wp2_with fail
    go_ret3
    exact ⟨rfl, hb⟩
  · obtain ⟨h1, h2⟩ := hr x rfl
    show Calls Try.prog 23 #[.agg #[.int .i64 (x.1 : Nat), .int .i64 (x.2.1 : Nat), .int .i64 (x.2.2 : Nat)], .bool true, .bool around] w (GivesIIB w (betweenM (some x) around))
    have hb : Below w.heap.size w (w.alloc (.cells #[.int .i64 (x.1 : Nat), .int .i64 (x.2.1 : Nat), .int .i64 (x.2.2 : Nat)] 40)) := (Below.refl _ w).alloc (Nat.le_refl _) _
    have k0 : Blk (w.alloc (.cells #[.int .i64 (x.1 : Nat), .int .i64 (x.2.1 : Nat), .int .i64 (x.2.2 : Nat)] 40)) w.heap.size 40 #[.int .i64 (x.1 : Nat), .int .i64 (x.2.1 : Nat), .int .i64 (x.2.2 : Nat)] := Blk.new _ _ _
    go_enter Try.func23, Try.ntmps23
    go_upto_region 3 with fail
    generalize w.alloc (.cells #[.int .i64 (x.1 : Nat), .int .i64 (x.2.1 : Nat), .int .i64 (x.2.2 : Nat)] 40) = wr at *
    have d0 : ∀ n, (wr.drewN n).cell? ⟨w.heap.size, 0, none⟩ = some (.int .i64 (x.1 : Nat)) := fun n => k0.cell 0
    have d1 : ∀ n, (wr.drewN n).cell? ⟨w.heap.size, 1, none⟩ = some (.int .i64 (x.2.1 : Nat)) := fun n => k0.cell 1
    have HB := Lib.hid (fun n => below_drewN hb n)
    clear hb k0
    obtain ⟨x1, x2, x3⟩ := x
    dsimp only at *
    cases around with
    | true =>
      go_upto_region 4 with fail
      go_quiet (fail)
      go_wp2_with fail
      go_ret3
      exact ⟨rfl, HB.out _⟩
    | false =>
      go_upto_region 5 with fail
      go_quiet (fail)
      go_wp2_with fail
      go_ret3
      exact ⟨rfl, HB.out _⟩
end Go.Proofs.Ytnkhlallnblfmaa

/-
  The document's word: layer 13.
-/
namespace Go.Proofs.Ytnkhlallnblfmaa
open Go.RowKit

/-- the number of the row that holds a, or of the last -/
def wordIx (a : Nat) : List RwO → Nat
  | [] => 0
  | [_] => 0
  | x :: y :: t => if x.2.1 ≤ a then wordIx a (y :: t) + 1 else 0
theorem wordIx_is (a : Nat) : ∀ (l : List RwO) (k : Nat) (hk : k < l.length), (∀ j (hj : j < k), (l[j]'(by omega)).2.1 ≤ a) → (k + 1 = l.length ∨ a < l[k].2.1) → wordIx a l = k
  | [], k, hk, _, _ => by simp at hk
  | [x], k, hk, _, _ => by simp at hk; subst hk; rfl
  | x :: y :: t, 0, hk, _, h => by
    have h' : a < x.2.1 := by
      rcases h with h | h
      · simp at h
      · exact h
    show (if x.2.1 ≤ a then wordIx a (y :: t) + 1 else 0) = 0
    rw [if_neg (by omega)]
  | x :: y :: t, k + 1, hk, hb, h => by
    have h0 : x.2.1 ≤ a := hb 0 (by omega)
    have h2 : k + 1 = (y :: t).length ∨ a < ((y :: t)[k]'(by simpa using hk)).2.1 := by
      rcases h with h | h
      · left; simpa using h
      · right; simpa using h
    have ih := wordIx_is a (y :: t) k (by simpa using hk) (fun j hj => by have := hb (j + 1) (by omega); simpa using this) h2
    show (if x.2.1 ≤ a then wordIx a (y :: t) + 1 else 0) = k + 1
    rw [if_pos h0, ih]
/-- the word's ends: the row r, the one behind it, the one ahead of it -/
def wordR (r : RwO) (behind ahead : Option RwO) : Nat × Nat :=
  match behind with
  | some b =>
    if r.2.2 = 0 then (if b.2.2 = 3 then (r.1, r.2.1) else (r.1, b.2.1))
    else if b.2.2 = 0 then (r.1, b.2.1)
    else match ahead with
      | some h => if h.2.2 = 0 then (h.1, r.2.1) else (r.1, r.2.1)
      | none => (r.1, r.2.1)
  | none =>
    if r.2.2 = 0 then (r.1, r.2.1)
    else match ahead with
      | some h => if h.2.2 = 0 then (h.1, r.2.1) else (r.1, r.2.1)
      | none => (r.1, r.2.1)
def owordM (l : List RwO) (a : Nat) (around : Bool) : Nat × Nat :=
  let i := wordIx a l
  let r := l[i]?.getD (0, 0, 0)
  if around = true then wordR r l[i + 1]? (if 0 < i then l[i - 1]? else none) else (r.1, r.2.1)
def GivesPP (w : World) (r : Nat × Nat) (e : Ending) (w' : World) : Prop := e = .returned (.tuple #[.int .i64 (r.1 : Nat), .int .i64 (r.2 : Nat)]) ∧ Below w.heap.size w w'
theorem owordM_is {l : List RwO} {a k : Nat} (hk : k < l.length) (hb : ∀ j (hj : j < k), (l[j]'(by omega)).2.1 ≤ a) (h : k + 1 = l.length ∨ a < l[k].2.1) (around : Bool) :
    owordM l a around = if around = true then wordR l[k] l[k + 1]? (if 0 < k then l[k - 1]? else none) else (l[k].1, l[k].2.1) := by
  unfold owordM
  rw [wordIx_is a l k hk hb h]
  simp only [List.getElem?_eq_getElem hk, Option.getD_some]
set_option maxHeartbeats 8000000 in
theorem refOWord_any (S : List UInt8) (hS : S.length ≤ 1000000) (h1 : 1 ≤ (rowsM S).length) (hl : (rowsM S).length ≤ 1000001) (hlx : ∀ x ∈ rowsM S, x.1 ≤ 1000000 ∧ x.2.1 ≤ 1000000 ∧ x.2.2 ≤ 3) (a : Nat) (_ha : a ≤ 1000000) (around : Bool) (w : World) :
    Calls Try.prog 17 #[.string ⟨S.toArray⟩, .int .i64 (a : Nat), .bool around] w (GivesPP w (owordM (rowsM S) a around)) := by
  generalize hrr : rowsM S = l at *
  have HR := Lib.hid hrr
  clear hrr
  go_enter Try.func17, Try.ntmps17
  go_upto_region 3 with (go_at_call 35; refine (refORows_any S hS _).mono ?_; rw [HR.out]; rintro e w1 ⟨A1, c1, rfl, own1, b1⟩; have R1 := Lib.hid (Row.of_own own1); clear own1)
  go_loopw [9] (fun i wr => ∃ (k : Nat) (hk : k < l.length), i = .int .i64 k ∧ Hid (∀ j (hj : j < k), (l[j]'(by omega)).2.1 ≤ a) ∧ wr = w1) (fun i _ => l.length - (intOf i).toNat)
  case atStart => exact ⟨0, by omega, rfl, Lib.hid (fun j hj => absurd hj (Nat.not_lt_zero _)), rfl⟩
  case round =>
    obtain ⟨k, hk, rfl, HB, rfl⟩ := hrel
    obtain ⟨ad, rfl, hadb, c0, c1, c2⟩ := obj_at R1.out hk
    obtain ⟨hx1, hx2, hx3⟩ := hlx _ (List.getElem_mem hk)
    have c1d : ∀ n, (wr.drewN n).cell? ⟨(ad.add (k * 3)).block, (ad.add (k * 3)).off + 1, none⟩ = some (.int .i64 (l[k].2.1 : Nat)) := fun n => c1
    have c0d : ∀ n, (wr.drewN n).cell? (ad.add (k * 3)) = some (.int .i64 (l[k].1 : Nat)) := fun n => c0
    have hk0 : (0 : Int) ≤ (k : Int) := by omega
    have hkl : (k : Int) < (l.length : Int) := by omega
    by_cases hlast : k + 1 < l.length
    · have hl1 : (k : Int) + 1 < (l.length : Int) := by omega
      obtain ⟨ad', ead, _, d0, d1, d2⟩ := obj_at R1.out hlast
      injection ead with ead
      subst ead
      by_cases hto : l[k].2.1 ≤ a
      · have hto' : (l[k].2.1 : Int) ≤ (a : Int) := by omega
        have HB2 : Hid (∀ j (hj : j < k + 1), (l[j]'(by omega)).2.1 ≤ a) := Lib.hid (fun j hj => by
          rcases Nat.lt_or_ge j k with h | h
          · exact HB.out j h
          · obtain rfl : j = k := by omega
            exact hto)
        go_wp2_with fail
        go_roundw
        case rel => exact ⟨k + 1, hlast, by go_num, HB2, trivial⟩
        case measure => simp [intOf]; omega
      · have hto' : ¬ (l[k].2.1 : Int) ≤ (a : Int) := by omega
        have HM := Lib.hid (owordM_is hk HB.out (.inr (by omega)) around)
        rw [List.getElem?_eq_getElem hlast] at HM
        have e1d : ∀ n, (wr.drewN n).cell? ⟨(ad.add ((k + 1) * 3)).block, (ad.add ((k + 1) * 3)).off + 1, none⟩ = some (.int .i64 (l[k + 1].2.1 : Nat)) := fun n => d1
        have e2d : ∀ n, (wr.drewN n).cell? ⟨(ad.add ((k + 1) * 3)).block, (ad.add ((k + 1) * 3)).off + 2, none⟩ = some (.int .i64 (l[k + 1].2.2 : Nat)) := fun n => d2
        have c2d : ∀ n, (wr.drewN n).cell? ⟨(ad.add (k * 3)).block, (ad.add (k * 3)).off + 2, none⟩ = some (.int .i64 (l[k].2.2 : Nat)) := fun n => c2
        obtain ⟨hy1, hy2, hy3⟩ := hlx _ (List.getElem_mem hlast)
        have HX := Lib.hid (fun hp : 0 < k => obj_at R1.out (show k - 1 < l.length by omega))
        generalize hb0 : l[k + 1] = b at *
        generalize hr0 : l[k] = r at *
        clear hb0 hr0 HB
        cases around with
        | false =>
          have HE : Hid (owordM l a false = (r.1, r.2.1)) := Lib.hid (HM.out.trans (if_neg (by decide)))
          go_upto_region 5 with fail
          go_quiet (fail)
          go_wp2_with fail
          go_ret2
          rw [HE.out]
          exact ⟨rfl, below_drewN b1 _⟩
        | true =>
          have HE : Hid (owordM l a true = wordR r (some b) (if 0 < k then l[k - 1]? else none)) := Lib.hid (HM.out.trans (if_pos rfl))
          clear HM
          go_upto_region 5 with fail
          go_quiet (fail)
          have BB := Lib.hid (fun n => below_drewN (below_drewN b1 nq) n)
          have f1 : ∀ n, ((wr.drewN nq).drewN n).cell? ⟨(ad.add ((k + 1) * 3)).block, (ad.add ((k + 1) * 3)).off + 1, none⟩ = some (.int .i64 (b.2.1 : Nat)) := fun n => d1
          have f2 : (wr.drewN nq).cell? ⟨(ad.add ((k + 1) * 3)).block, (ad.add ((k + 1) * 3)).off + 2, none⟩ = some (.int .i64 (b.2.2 : Nat)) := d2
          have f3 : (wr.drewN nq).cell? ⟨(ad.add (k * 3)).block, (ad.add (k * 3)).off + 2, none⟩ = some (.int .i64 (r.2.2 : Nat)) := c2
          clear c0d c1d e1d e2d c2d
          have hb0 : (0 : Int) ≤ (b.2.2 : Int) := by omega
          rcases Nat.eq_zero_or_pos k with hz | hp
          · clear HX
            have hp' : ¬ (0 : Int) < (k : Int) := by omega
            rw [if_neg (show ¬ 0 < k by omega)] at HE
            clear hz
            generalize wr.drewN nq = w5 at *
            go_upto_region 13 with fail
            obtain ⟨r1, r2, r3⟩ := r
            obtain ⟨y1, y2, y3⟩ := b
            dsimp only at *
            by_cases h3 : r3 = 0
            · subst h3
              by_cases h4 : y3 = 3
              · subst h4
                have HF : Hid (owordM l a true = (r1, r2)) := Lib.hid (HE.out.trans (by simp [wordR]))
                clear HE
                go_wp2_with fail
                go_ret2
                rw [HF.out]
                exact ⟨rfl, BB.out 0⟩
              · have h4' : ((y3 : Int) == 3) = false := by rw [beq_eq_false_iff_ne]; omega
                have HF : Hid (owordM l a true = (r1, y2)) := Lib.hid (HE.out.trans (by simp [wordR, h4]))
                clear HE
                go_upto_region 14 with fail
                go_quiet (fail)
                go_wp2_with fail
                go_ret2
                rw [HF.out]
                exact ⟨rfl, BB.out _⟩
            · have h3' : ((r3 : Int) == 0) = false := by rw [beq_eq_false_iff_ne]; omega
              by_cases h4 : y3 = 0
              · subst h4
                have HF : Hid (owordM l a true = (r1, y2)) := Lib.hid (HE.out.trans (by simp [wordR, h3]))
                clear HE
                go_upto_region 17 with fail
                go_quiet (fail)
                go_wp2_with fail
                go_ret2
                rw [HF.out]
                exact ⟨rfl, BB.out _⟩
              · have h4' : ((y3 : Int) == 0) = false := by rw [beq_eq_false_iff_ne]; omega
                have HF : Hid (owordM l a true = (r1, r2)) := Lib.hid (HE.out.trans (by simp [wordR, h3, h4]))
                clear HE
                go_wp2_with fail
                go_ret2
                rw [HF.out]
                exact ⟨rfl, BB.out 0⟩
          · have hp' : (0 : Int) < (k : Int) := by omega
            obtain ⟨ad', ead, _, x0, x1, x2⟩ := HX.out hp
            injection ead with ead
            subst ead
            rw [if_pos hp, List.getElem?_eq_getElem (show k - 1 < l.length by omega)] at HE
            obtain ⟨hz1, hz2, hz3⟩ := hlx _ (List.getElem_mem (show k - 1 < l.length by omega))
            generalize l[k - 1] = h at *
            have g0 : (wr.drewN nq).cell? (ad.add ((k - 1) * 3)) = some (.int .i64 (h.1 : Nat)) := x0
            have g2 : (wr.drewN nq).cell? ⟨(ad.add ((k - 1) * 3)).block, (ad.add ((k - 1) * 3)).off + 2, none⟩ = some (.int .i64 (h.2.2 : Nat)) := x2
            clear HX x0 x1 x2
            generalize wr.drewN nq = w5 at *
            go_upto_region 13 with fail
            obtain ⟨r1, r2, r3⟩ := r
            obtain ⟨y1, y2, y3⟩ := b
            obtain ⟨z1, z2, z3⟩ := h
            dsimp only at *
            by_cases h3 : r3 = 0
            · subst h3
              by_cases h4 : y3 = 3
              · subst h4
                have HF : Hid (owordM l a true = (r1, r2)) := Lib.hid (HE.out.trans (by simp [wordR]))
                clear HE
                go_wp2_with fail
                go_ret2
                rw [HF.out]
                exact ⟨rfl, BB.out 0⟩
              · have h4' : ((y3 : Int) == 3) = false := by rw [beq_eq_false_iff_ne]; omega
                have HF : Hid (owordM l a true = (r1, y2)) := Lib.hid (HE.out.trans (by simp [wordR, h4]))
                clear HE
                go_upto_region 14 with fail
                go_quiet (fail)
                go_wp2_with fail
                go_ret2
                rw [HF.out]
                exact ⟨rfl, BB.out _⟩
            · have h3' : ((r3 : Int) == 0) = false := by rw [beq_eq_false_iff_ne]; omega
              by_cases h4 : y3 = 0
              · subst h4
                have HF : Hid (owordM l a true = (r1, y2)) := Lib.hid (HE.out.trans (by simp [wordR, h3]))
                clear HE
                go_upto_region 17 with fail
                go_quiet (fail)
                go_wp2_with fail
                go_ret2
                rw [HF.out]
                exact ⟨rfl, BB.out _⟩
              · have h4' : ((y3 : Int) == 0) = false := by rw [beq_eq_false_iff_ne]; omega
                by_cases h5 : z3 = 0
                · subst h5
                  have HF : Hid (owordM l a true = (z1, r2)) := Lib.hid (HE.out.trans (by simp [wordR, h3, h4]))
                  clear HE
                  go_wp2_with fail
                  go_ret2
                  rw [HF.out]
                  exact ⟨rfl, BB.out 0⟩
                · have h5' : ((z3 : Int) == 0) = false := by rw [beq_eq_false_iff_ne]; omega
                  have HF : Hid (owordM l a true = (r1, r2)) := Lib.hid (HE.out.trans (by simp [wordR, h3, h4, h5]))
                  clear HE
                  go_wp2_with fail
                  go_ret2
                  rw [HF.out]
                  exact ⟨rfl, BB.out 0⟩
    · have hl1 : ¬ (k : Int) + 1 < (l.length : Int) := by omega
      have HM := Lib.hid (owordM_is hk HB.out (.inl (by omega)) around)
      rw [List.getElem?_eq_none (show l.length ≤ k + 1 by omega)] at HM
      have HX := Lib.hid (fun hp : 0 < k => obj_at R1.out (show k - 1 < l.length by omega))
      generalize hr0 : l[k] = r at *
      clear hr0 HB
      cases around with
      | false =>
        have HE : Hid (owordM l a false = (r.1, r.2.1)) := Lib.hid (HM.out.trans (if_neg (by decide)))
        go_upto_region 5 with fail
        go_quiet (fail)
        go_wp2_with fail
        go_ret2
        rw [HE.out]
        exact ⟨rfl, below_drewN b1 _⟩
      | true =>
        have HE : Hid (owordM l a true = wordR r none (if 0 < k then l[k - 1]? else none)) := Lib.hid (HM.out.trans (if_pos rfl))
        clear HM
        go_upto_region 5 with fail
        go_quiet (fail)
        have BB := Lib.hid (fun n => below_drewN (below_drewN b1 nq) n)
        have f3 : (wr.drewN nq).cell? ⟨(ad.add (k * 3)).block, (ad.add (k * 3)).off + 2, none⟩ = some (.int .i64 (r.2.2 : Nat)) := c2
        clear c0d c1d
        rcases Nat.eq_zero_or_pos k with hz | hp
        · clear HX
          have hp' : ¬ (0 : Int) < (k : Int) := by omega
          rw [if_neg (show ¬ 0 < k by omega)] at HE
          clear hz
          generalize wr.drewN nq = w5 at *
          go_upto_region 13 with fail
          obtain ⟨r1, r2, r3⟩ := r
          dsimp only at *
          by_cases h3 : r3 = 0
          · subst h3
            have HF : Hid (owordM l a true = (r1, r2)) := Lib.hid (HE.out.trans (by simp [wordR]))
            clear HE
            go_wp2_with fail
            go_ret2
            rw [HF.out]
            exact ⟨rfl, BB.out 0⟩
          · have h3' : ((r3 : Int) == 0) = false := by rw [beq_eq_false_iff_ne]; omega
            have HF : Hid (owordM l a true = (r1, r2)) := Lib.hid (HE.out.trans (by simp [wordR, h3]))
            clear HE
            go_wp2_with fail
            go_ret2
            rw [HF.out]
            exact ⟨rfl, BB.out 0⟩
        · have hp' : (0 : Int) < (k : Int) := by omega
          obtain ⟨ad', ead, _, x0, x1, x2⟩ := HX.out hp
          injection ead with ead
          subst ead
          rw [if_pos hp, List.getElem?_eq_getElem (show k - 1 < l.length by omega)] at HE
          obtain ⟨hz1, hz2, hz3⟩ := hlx _ (List.getElem_mem (show k - 1 < l.length by omega))
          generalize l[k - 1] = h at *
          have g0 : (wr.drewN nq).cell? (ad.add ((k - 1) * 3)) = some (.int .i64 (h.1 : Nat)) := x0
          have g2 : (wr.drewN nq).cell? ⟨(ad.add ((k - 1) * 3)).block, (ad.add ((k - 1) * 3)).off + 2, none⟩ = some (.int .i64 (h.2.2 : Nat)) := x2
          clear HX x0 x1 x2
          generalize wr.drewN nq = w5 at *
          go_upto_region 13 with fail
          obtain ⟨r1, r2, r3⟩ := r
          obtain ⟨z1, z2, z3⟩ := h
          dsimp only at *
          by_cases h3 : r3 = 0
          · subst h3
            have HF : Hid (owordM l a true = (r1, r2)) := Lib.hid (HE.out.trans (by simp [wordR]))
            clear HE
            go_wp2_with fail
            go_ret2
            rw [HF.out]
            exact ⟨rfl, BB.out 0⟩
          · have h3' : ((r3 : Int) == 0) = false := by rw [beq_eq_false_iff_ne]; omega
            by_cases h5 : z3 = 0
            · subst h5
              have HF : Hid (owordM l a true = (z1, r2)) := Lib.hid (HE.out.trans (by simp [wordR, h3]))
              clear HE
              go_wp2_with fail
              go_ret2
              rw [HF.out]
              exact ⟨rfl, BB.out 0⟩
            · have h5' : ((z3 : Int) == 0) = false := by rw [beq_eq_false_iff_ne]; omega
              have HF : Hid (owordM l a true = (r1, r2)) := Lib.hid (HE.out.trans (by simp [wordR, h3, h5]))
              clear HE
              go_wp2_with fail
              go_ret2
              rw [HF.out]
              exact ⟨rfl, BB.out 0⟩
end Go.Proofs.Ytnkhlallnblfmaa

/-
  The rows of the document's objects lie in the text: layer 13.
-/
namespace Go.Proofs.Ytnkhlallnblfmaa
open Go.RowKit

/-- a row that lies in N bytes -/
def InO (N : Nat) (x : RwO) : Prop := x.1 ≤ N ∧ x.2.1 ≤ N ∧ x.2.2 ≤ 3
theorem classL_le (r : Nat) : classL r ≤ 3 := by
  unfold classL
  repeat' split
  all_goals omega
theorem rowStep_in {N : Nat} {L : List RwO} {x : RwO} (hL : ∀ y ∈ L, InO N y) (hx : InO N x) : ∀ y ∈ rowStep L x, InO N y := by
  rcases List.eq_nil_or_concat L with rfl | ⟨M, r, rfl⟩
  · intro y hy; rw [rowStep_nil, List.mem_singleton] at hy; rw [hy]; exact hx
  · rw [List.concat_eq_append] at hL ⊢
    rw [rowStep_snoc]
    have hr := hL r (by simp)
    split
    · intro y hy
      rcases List.mem_append.1 hy with h | h
      · exact hL y (List.mem_append_left _ h)
      · rw [List.mem_singleton] at h; rw [h]; exact ⟨hr.1, hx.2.1, hr.2.2⟩
    · intro y hy
      rcases List.mem_append.1 hy with h | h
      · exact hL y h
      · rw [List.mem_singleton] at h; rw [h]; exact hx
theorem rows_in (S : List UInt8) : ∀ x ∈ rowsM S, InO S.length x := by
  have key : ∀ k, ∀ x ∈ rowsTo (chars S) k, InO S.length x := by
    intro k
    induction k with
    | zero => intro x hx; cases hx
    | succ k ih =>
      refine rowStep_in ih ⟨?_, ?_, classL_le _⟩
      · have := width_le_take (chars S) k; rw [width_chars] at this; exact this
      · have := width_le_take (chars S) (k + 1); rw [width_chars] at this; exact this
  exact key _
theorem rows_len (S : List UInt8) : (rowsM S).length ≤ S.length ∧ (0 < S.length → 1 ≤ (rowsM S).length) := by
  have h := rowsTo_len (chars S) (chars S).length
  have hc := chars_len S
  refine ⟨Nat.le_trans h.1 hc, fun hp => h.2 ?_⟩
  rcases Nat.eq_zero_or_pos (chars S).length with h0 | h0
  · exfalso
    have hw := width_chars S
    rw [List.eq_nil_of_length_eq_zero h0] at hw
    simp [width] at hw
    omega
  · exact h0
theorem brackets_in (S : List UInt8) (o s : UInt8) : ∀ x ∈ bracketsM S o s, InO S.length x := by
  have key : ∀ i, i ≤ S.length → (∀ x ∈ (brTo S o s i).1, InO S.length x) ∧ ∀ k ∈ (brTo S o s i).2, k ≤ S.length := by
    intro i
    induction i with
    | zero => intro _; exact ⟨fun x hx => (by cases hx), fun x hx => (by cases hx)⟩
    | succ i ih =>
      intro hi
      obtain ⟨h1, h2⟩ := ih (by omega)
      show (∀ x ∈ (brStep o s (S.getD i 0) i (brTo S o s i)).1, _) ∧ ∀ k ∈ (brStep o s (S.getD i 0) i (brTo S o s i)).2, _
      generalize brTo S o s i = st at *
      obtain ⟨L, P⟩ := st
      by_cases ho : S.getD i 0 = o
      · rw [brStep_open ho]
        refine ⟨h1, fun k hk => ?_⟩
        rcases List.mem_append.1 hk with h | h
        · exact h2 k h
        · rw [List.mem_singleton] at h; omega
      · by_cases hs : S.getD i 0 = s
        · rcases List.eq_nil_or_concat P with rfl | ⟨Q, k, rfl⟩
          · rw [brStep_none ho]; exact ⟨h1, h2⟩
          · rw [List.concat_eq_append] at h2 ⊢
            rw [brStep_shut ho hs]
            refine ⟨fun x hx => ?_, fun j hj => h2 j (List.mem_append_left _ hj)⟩
            rcases List.mem_append.1 hx with h | h
            · exact h1 x h
            · rw [List.mem_singleton] at h; rw [h]; exact ⟨h2 k (by simp), by show i ≤ _; omega, by show 0 ≤ 3; omega⟩
        · rw [brStep_else ho hs]; exact ⟨h1, h2⟩
  exact (key _ (Nat.le_refl _)).1
theorem brackets_len (S : List UInt8) (o s : UInt8) : (bracketsM S o s).length ≤ S.length := (brTo_len S o s _).1
theorem quotes_in (S : List UInt8) (n : Int) (q : UInt8) : (∀ x ∈ quotesM S n q, InO S.length x) ∧ (quotesM S n q).length ≤ S.length := by
  obtain ⟨hft, htl⟩ := bounds_le S n
  have key : ∀ f j, f + j ≤ S.length → (∀ x ∈ (quTo S q f j).1, InO S.length x) ∧ (∀ k, (quTo S q f j).2 = some k → k ≤ S.length) ∧ (quTo S q f j).1.length ≤ j := by
    intro f j
    induction j with
    | zero => intro _; exact ⟨fun x hx => (by cases hx), fun x hx => (by cases hx), Nat.le_refl _⟩
    | succ j ih =>
      intro hi
      obtain ⟨h1, h2, h3⟩ := ih (by omega)
      show (∀ x ∈ (quStep q (S.getD (f + j) 0) (f + j) (quTo S q f j)).1, _) ∧ (∀ k, (quStep q (S.getD (f + j) 0) (f + j) (quTo S q f j)).2 = some k → _) ∧ (quStep q (S.getD (f + j) 0) (f + j) (quTo S q f j)).1.length ≤ _
      generalize quTo S q f j = st at *
      obtain ⟨L, o⟩ := st
      dsimp only at h1 h2 h3
      unfold quStep
      split
      · rcases o with _ | k
        · exact ⟨h1, fun k hk => (by injection hk with hk; omega), by show L.length ≤ _; omega⟩
        · refine ⟨fun x hx => ?_, fun j hj => (by cases hj), by show (L ++ [_]).length ≤ _; simp; omega⟩
          rcases List.mem_append.1 hx with h | h
          · exact h1 x h
          · rw [List.mem_singleton] at h; rw [h]; exact ⟨h2 k rfl, by show f + j ≤ _; omega, by show 0 ≤ 3; omega⟩
      · exact ⟨h1, h2, by show L.length ≤ _; omega⟩
  have := key (boundsL S n).1.1 ((boundsL S n).1.2 - (boundsL S n).1.1) (by omega)
  exact ⟨this.1, Nat.le_trans this.2.2 (by omega)⟩
end Go.Proofs.Ytnkhlallnblfmaa

/-
  The document's Find: layer 13.
-/
namespace Go.Proofs.Ytnkhlallnblfmaa
open Go.RowKit

/-- what an object of quotes says: the pair about a, or the first that begins behind it -/
def quoteAt (l : List RwO) (a : Nat) : Option RwO :=
  match aboutM l a with
  | some x => some x
  | none => l.find? fun x => decide (a < x.1)
def findO (S : List UInt8) (p : Int) (around : Bool) (key : Int) : Option (Nat × Nat) :=
  if alignM S p = S.length then none
  else if key = 119 then some (owordM (rowsM S) (alignM S p) around)
  else if inS key [40, 41, 98] = true then betweenM (aboutM (bracketsM S 40 41) (alignM S p)) around
  else if inS key [91, 93] = true then betweenM (aboutM (bracketsM S 91 93) (alignM S p)) around
  else if inS key [123, 125, 66] = true then betweenM (aboutM (bracketsM S 123 125) (alignM S p)) around
  else if key = 34 ∨ key = 39 then betweenM (quoteAt (quotesM S (ofL S (alignM S p : Nat) : Nat) (UInt8.ofNat key.toNat)) (alignM S p)) around
  else none
theorem abo_mem (l : List RwO) (a : Nat) : ∀ (b : Option RwO) (x : RwO), l.foldl (aboStep a) b = some x → b = some x ∨ x ∈ l := by
  induction l with
  | nil => intro b x h; exact .inl h
  | cons y l ih =>
    intro b x h
    rcases ih _ x h with h1 | h1
    · unfold aboStep at h1
      split at h1
      · injection h1 with h1; right; rw [h1]; exact List.mem_cons_self
      · exact .inl h1
    · exact .inr (List.mem_cons_of_mem _ h1)
theorem about_mem {l : List RwO} {a : Nat} {x : RwO} (h : aboutM l a = some x) : x ∈ l := (abo_mem l a none x h).elim (fun h => by cases h) id
theorem refGIn_par (k : Int) (w : World) : Calls Try.prog 18 #[.int .i64 k, .string ⟨#[40, 41, 98]⟩] w fun e w' => e = .returned (.bool (inS k [40, 41, 98])) ∧ Below w.heap.size w w' := refGIn_any k [40, 41, 98] (by decide) w
theorem refGIn_squ (k : Int) (w : World) : Calls Try.prog 18 #[.int .i64 k, .string ⟨#[91, 93]⟩] w fun e w' => e = .returned (.bool (inS k [91, 93])) ∧ Below w.heap.size w w' := refGIn_any k [91, 93] (by decide) w
theorem refGIn_cur (k : Int) (w : World) : Calls Try.prog 18 #[.int .i64 k, .string ⟨#[123, 125, 66]⟩] w fun e w' => e = .returned (.bool (inS k [123, 125, 66])) ∧ Below w.heap.size w w' := refGIn_any k [123, 125, 66] (by decide) w
theorem refOAbout_row (A : Option Addr) (c B : Nat) (l : List RwO) (hl : l.length ≤ 1000001) (hlx : ∀ x ∈ l, x.1 ≤ 1000000 ∧ x.2.1 ≤ 1000000) (a : Nat) (ha : a ≤ 1000000) (w : World) (hB : B ≤ w.heap.size) (h : Row w B A (flatO l)) :
    Calls Try.prog 22 #[.slice A l.length c, .int .i64 (a : Nat)] w fun e w' => ∃ x y z : Nat, (aboutM l a).getD (0, 0, 0) = (x, y, z) ∧ e = .returned (.tuple #[.agg #[.int .i64 (x : Nat), .int .i64 (y : Nat), .int .i64 (z : Nat)], .bool (aboutM l a).isSome]) ∧ Below w.heap.size w w' :=
  (refOAbout_any A c B l hl hlx a ha w hB h).mono fun _e _w' ⟨he, hb⟩ => ⟨_, _, _, rfl, he, hb⟩
theorem refOBetween_row (r : Option RwO) (hr : ∀ x, r = some x → x.1 ≤ 1000000 ∧ x.2.1 ≤ 1000000) (around : Bool) (x y z : Nat) (he : r.getD (0, 0, 0) = (x, y, z)) (w : World) :
    Calls Try.prog 23 #[.agg #[.int .i64 (x : Nat), .int .i64 (y : Nat), .int .i64 (z : Nat)], .bool r.isSome, .bool around] w (GivesIIB w (betweenM r around)) := by
  have h := refOBetween_any r hr around w
  rw [he] at h
  exact h
/-- what is found so far, and what is still to come -/
def quoteTo (l : List RwO) (a k : Nat) : Option RwO → Option RwO
  | some x => some x
  | none => (l.drop k).find? fun x => decide (a < x.1)
theorem quoteTo_start (l : List RwO) (a : Nat) : quoteAt l a = quoteTo l a 0 (aboutM l a) := by
  unfold quoteAt quoteTo
  cases aboutM l a <;> rfl
theorem quoteTo_hit {l : List RwO} {a k : Nat} (hk : k < l.length) (h : a < l[k].1) : quoteTo l a k none = quoteTo l a (k + 1) (some l[k]) := by
  show (l.drop k).find? _ = _
  rw [List.drop_eq_getElem_cons hk, List.find?_cons_of_pos (by simpa using h)]
  rfl
theorem quoteTo_miss {l : List RwO} {a k : Nat} (hk : k < l.length) (h : ¬ a < l[k].1) : quoteTo l a k none = quoteTo l a (k + 1) none := by
  show (l.drop k).find? _ = (l.drop (k + 1)).find? _
  rw [List.drop_eq_getElem_cons hk, List.find?_cons_of_neg (by simpa using h)]
theorem quoteTo_end (l : List RwO) (a : Nat) : quoteTo l a l.length none = none := by
  show (l.drop l.length).find? _ = none
  rw [List.drop_length]; rfl
theorem quote_mem {l : List RwO} {a : Nat} {x : RwO} (h : quoteAt l a = some x) : x ∈ l := by
  unfold quoteAt at h
  split at h
  · rename_i y hy; injection h with h; subst h; exact about_mem hy
  · exact List.mem_of_find?_eq_some h
theorem abo_row (l : List RwO) (hl : l.length ≤ 1000001) (hlx : ∀ x ∈ l, x.1 ≤ 1000000 ∧ x.2.1 ≤ 1000000) (a : Nat) (ha : a ≤ 1000000) (w : World) (A : Option Addr) (c : Nat) (h : Row w w.heap.size A (flatO l)) :
    Calls Try.prog 22 #[.slice A l.length c, .int .i64 (a : Nat)] w fun e w' => ∃ x y z : Nat, (aboutM l a).getD (0, 0, 0) = (x, y, z) ∧ e = .returned (.tuple #[.agg #[.int .i64 (x : Nat), .int .i64 (y : Nat), .int .i64 (z : Nat)], .bool (aboutM l a).isSome]) ∧ Below w.heap.size w w' := refOAbout_row A c _ l hl hlx a ha w (Nat.le_refl _) h
set_option maxHeartbeats 8000000 in
theorem refOFind_any (S : List UInt8) (hS : S.length ≤ 1000000) (p : Int) (around : Bool) (key : Int) (w : World) :
    Calls Try.prog 9 #[.string ⟨S.toArray⟩, .int .i64 p, .bool around, .int .i64 key] w (GivesIIB w (findO S p around key)) := by
  obtain ⟨v, hv⟩ : ∃ v, findO S p around key = v := ⟨_, rfl⟩
  rw [hv]
  have HV := Lib.hid hv
  clear hv
  unfold findO at HV
  have hal := alignM_le S p
  obtain ⟨a, ha⟩ : ∃ a, alignM S p = a := ⟨_, rfl⟩
  rw [ha] at HV hal
  have HA := Lib.hid ha
  clear ha
  by_cases he : a = S.length
  · have HE : Hid (none = v) := by have := HV.out; rwa [if_pos he] at this
    clear HV
    have he' : ((a : Int) == (S.length : Int)) = true := by rw [beq_iff_eq]; omega
    clear he
    go_enter Try.func9, Try.ntmps9
    go_wp2_with (go_at_call 10; refine (refMAlign S hS p _).mono ?_; rw [HA.out]; rintro e w1 ⟨rfl, b1⟩)
    go_ret3
    rw [← HE.out]
    exact ⟨rfl, b1⟩
  have he' : ((a : Int) == (S.length : Int)) = false := by rw [beq_eq_false_iff_ne]; omega
  have HV2 := Lib.hid ((if_neg he).symm.trans HV.out)
  clear HV
  have ha1 : a < S.length := by omega
  clear he
  by_cases h1 : key = 119
  · subst h1
    have HE : Hid (some (owordM (rowsM S) a around) = v) := by have := HV2.out; rwa [if_pos rfl] at this
    clear HV2
    have hlen := rows_len S
    have hin := rows_in S
    have HW : Hid (∀ wz, Calls Try.prog 17 #[.string ⟨S.toArray⟩, .int .i64 (a : Nat), .bool around] wz (GivesPP wz (owordM (rowsM S) a around))) := fun wz => refOWord_any S hS (hlen.2 (by omega)) (by omega) (fun x hx => by have := hin x hx; unfold InO at this; omega) a (by omega) around wz
    clear hlen hin
    generalize owordM (rowsM S) a around = r at *
    go_enter Try.func9, Try.ntmps9
    go_wp2_with (first
      | (go_at_call 10; refine (refMAlign S hS p _).mono ?_; rw [HA.out]; rintro e w1 ⟨rfl, b1⟩)
      | (go_at_call 17; refine (HW.out _).mono ?_; rintro e w2 ⟨rfl, b2⟩; replace b2 := b1.trans (b2.mono b1.size)))
    go_ret3
    rw [← HE.out]
    exact ⟨rfl, b2⟩
  have e1 : (key == 119) = false := by rw [beq_eq_false_iff_ne]; exact h1
  have HV3 := Lib.hid ((if_neg h1).symm.trans HV2.out)
  clear HV2 h1
  cases hi0 : inS key [40, 41, 98] with
  | true =>
    have HE : Hid (betweenM (aboutM (bracketsM S 40 41) a) around = v) := by have := HV3.out; rwa [if_pos hi0] at this
    have HI0 := Lib.hid hi0
    clear HV3 hi0
    have hlen := brackets_len S 40 41
    have hin := brackets_in S 40 41
    obtain ⟨l, hl⟩ : ∃ l, bracketsM S 40 41 = l := ⟨_, rfl⟩
    rw [hl] at HE hlen hin
    have HL := Lib.hid hl
    clear hl
    have HAb := Lib.hid (abo_row l (by omega) (fun x hx => by have := hin x hx; unfold InO at this; omega) a (by omega))
    have HB : Hid (∀ x, aboutM l a = some x → x.1 ≤ 1000000 ∧ x.2.1 ≤ 1000000) := fun x hx => by have := hin x (about_mem hx); unfold InO at this; omega
    clear hin
    generalize aboutM l a = r at *
    go_enter Try.func9, Try.ntmps9
    go_wp2_with (first
      | (go_at_call 10; refine (refMAlign S hS p _).mono ?_; rw [HA.out]; rintro e w1 ⟨rfl, b1⟩)
      | (go_at_call 18; refine (refGIn_par key _).mono ?_; rw [HI0.out]; rintro e w10 ⟨rfl, b10⟩; replace b10 := b1.trans (b10.mono b1.size))
      | (go_at_call 19; refine (refOBrackets_any S hS 40 41 _).mono ?_; rw [HL.out]; rintro e w3 ⟨A3, c3, rfl, own3, b3⟩; replace b3 := b10.trans (b3.mono b10.size); have R3 := Lib.hid (Row.of_own own3); clear own3)
      | (go_at_call 22; refine (HAb.out _ A3 c3 R3.out).mono ?_; rintro e w4 ⟨x, y, z, hx, rfl, b4⟩; replace b4 := b3.trans (b4.mono b3.size); have z4 := b4.size)
      | ((with_reducible refine at_store 40 (.tmp 18) (.tmp 106) ?_); refine wpList_setRow rfl 40 (.tmp 18) (.tmp 106) rfl w4.heap.size #[.int .i64 (x : Nat), .int .i64 (y : Nat), .int .i64 (z : Nat)] rfl rfl 40 _ (Blk.new w4 40 #[.int .i64 0, .int .i64 0, .int .i64 0]) obj_size rfl (by simp [Value.oneCell']) ?_; intro w5 k5 hg5; have b5 := (b4.alloc z4 _).grown hg5 (b4.alloc z4 _).size (fun j hj => by injection hj with hj; omega); clear hg5)
      | ((with_reducible refine at_load 40 _ ?_); refine wpList_load_row rfl 40 _ rfl w4.heap.size rfl _ #[.int .i64 (x : Nat), .int .i64 (y : Nat), .int .i64 (z : Nat)] (0, 0) _ k5 Try.underlying40 rfl obj_size ?_)
      | (go_at_call 23; refine (refOBetween_row r HB.out around x y z hx _).mono ?_; rintro e w6 ⟨rfl, b6⟩; replace b6 := b5.trans (b6.mono b5.size)))
    go_ret3
    rw [← HE.out]
    exact ⟨rfl, b6⟩
  | false =>
  have HW0 := Lib.hid ((if_neg (show ¬ inS key [40, 41, 98] = true by rw [hi0]; decide)).symm.trans HV3.out)
  have HI0 := Lib.hid hi0
  clear HV3 hi0
  cases hi1 : inS key [91, 93] with
  | true =>
    have HE : Hid (betweenM (aboutM (bracketsM S 91 93) a) around = v) := by have := HW0.out; rwa [if_pos hi1] at this
    have HI1 := Lib.hid hi1
    clear HW0 hi1
    have hlen := brackets_len S 91 93
    have hin := brackets_in S 91 93
    obtain ⟨l, hl⟩ : ∃ l, bracketsM S 91 93 = l := ⟨_, rfl⟩
    rw [hl] at HE hlen hin
    have HL := Lib.hid hl
    clear hl
    have HAb := Lib.hid (abo_row l (by omega) (fun x hx => by have := hin x hx; unfold InO at this; omega) a (by omega))
    have HB : Hid (∀ x, aboutM l a = some x → x.1 ≤ 1000000 ∧ x.2.1 ≤ 1000000) := fun x hx => by have := hin x (about_mem hx); unfold InO at this; omega
    clear hin
    generalize aboutM l a = r at *
    go_enter Try.func9, Try.ntmps9
    go_wp2_with (first
      | (go_at_call 10; refine (refMAlign S hS p _).mono ?_; rw [HA.out]; rintro e w1 ⟨rfl, b1⟩)
      | (go_at_call 18; refine use_factM b10 ?_; intro _; refine (refGIn_squ key _).mono ?_; rw [HI1.out]; rintro e w11 ⟨rfl, b11⟩; replace b11 := b10.trans (b11.mono b10.size))
      | (go_at_call 18; refine (refGIn_par key _).mono ?_; rw [HI0.out]; rintro e w10 ⟨rfl, b10⟩; replace b10 := b1.trans (b10.mono b1.size))
      | (go_at_call 19; refine (refOBrackets_any S hS 91 93 _).mono ?_; rw [HL.out]; rintro e w3 ⟨A3, c3, rfl, own3, b3⟩; replace b3 := b11.trans (b3.mono b11.size); have R3 := Lib.hid (Row.of_own own3); clear own3)
      | (go_at_call 22; refine (HAb.out _ A3 c3 R3.out).mono ?_; rintro e w4 ⟨x, y, z, hx, rfl, b4⟩; replace b4 := b3.trans (b4.mono b3.size); have z4 := b4.size)
      | ((with_reducible refine at_store 40 (.tmp 18) (.tmp 106) ?_); refine wpList_setRow rfl 40 (.tmp 18) (.tmp 106) rfl w4.heap.size #[.int .i64 (x : Nat), .int .i64 (y : Nat), .int .i64 (z : Nat)] rfl rfl 40 _ (Blk.new w4 40 #[.int .i64 0, .int .i64 0, .int .i64 0]) obj_size rfl (by simp [Value.oneCell']) ?_; intro w5 k5 hg5; have b5 := (b4.alloc z4 _).grown hg5 (b4.alloc z4 _).size (fun j hj => by injection hj with hj; omega); clear hg5)
      | ((with_reducible refine at_load 40 _ ?_); refine wpList_load_row rfl 40 _ rfl w4.heap.size rfl _ #[.int .i64 (x : Nat), .int .i64 (y : Nat), .int .i64 (z : Nat)] (0, 0) _ k5 Try.underlying40 rfl obj_size ?_)
      | (go_at_call 23; refine (refOBetween_row r HB.out around x y z hx _).mono ?_; rintro e w6 ⟨rfl, b6⟩; replace b6 := b5.trans (b6.mono b5.size)))
    go_ret3
    rw [← HE.out]
    exact ⟨rfl, b6⟩
  | false =>
  have HW1 := Lib.hid ((if_neg (show ¬ inS key [91, 93] = true by rw [hi1]; decide)).symm.trans HW0.out)
  have HI1 := Lib.hid hi1
  clear HW0 hi1
  cases hi2 : inS key [123, 125, 66] with
  | true =>
    have HE : Hid (betweenM (aboutM (bracketsM S 123 125) a) around = v) := by have := HW1.out; rwa [if_pos hi2] at this
    have HI2 := Lib.hid hi2
    clear HW1 hi2
    have hlen := brackets_len S 123 125
    have hin := brackets_in S 123 125
    obtain ⟨l, hl⟩ : ∃ l, bracketsM S 123 125 = l := ⟨_, rfl⟩
    rw [hl] at HE hlen hin
    have HL := Lib.hid hl
    clear hl
    have HAb := Lib.hid (abo_row l (by omega) (fun x hx => by have := hin x hx; unfold InO at this; omega) a (by omega))
    have HB : Hid (∀ x, aboutM l a = some x → x.1 ≤ 1000000 ∧ x.2.1 ≤ 1000000) := fun x hx => by have := hin x (about_mem hx); unfold InO at this; omega
    clear hin
    generalize aboutM l a = r at *
    go_enter Try.func9, Try.ntmps9
    go_wp2_with (first
      | (go_at_call 10; refine (refMAlign S hS p _).mono ?_; rw [HA.out]; rintro e w1 ⟨rfl, b1⟩)
      | (go_at_call 18; refine use_factM b11 ?_; intro _; refine (refGIn_cur key _).mono ?_; rw [HI2.out]; rintro e w12 ⟨rfl, b12⟩; replace b12 := b11.trans (b12.mono b11.size))
      | (go_at_call 18; refine use_factM b10 ?_; intro _; refine (refGIn_squ key _).mono ?_; rw [HI1.out]; rintro e w11 ⟨rfl, b11⟩; replace b11 := b10.trans (b11.mono b10.size))
      | (go_at_call 18; refine (refGIn_par key _).mono ?_; rw [HI0.out]; rintro e w10 ⟨rfl, b10⟩; replace b10 := b1.trans (b10.mono b1.size))
      | (go_at_call 19; refine (refOBrackets_any S hS 123 125 _).mono ?_; rw [HL.out]; rintro e w3 ⟨A3, c3, rfl, own3, b3⟩; replace b3 := b12.trans (b3.mono b12.size); have R3 := Lib.hid (Row.of_own own3); clear own3)
      | (go_at_call 22; refine (HAb.out _ A3 c3 R3.out).mono ?_; rintro e w4 ⟨x, y, z, hx, rfl, b4⟩; replace b4 := b3.trans (b4.mono b3.size); have z4 := b4.size)
      | ((with_reducible refine at_store 40 (.tmp 18) (.tmp 106) ?_); refine wpList_setRow rfl 40 (.tmp 18) (.tmp 106) rfl w4.heap.size #[.int .i64 (x : Nat), .int .i64 (y : Nat), .int .i64 (z : Nat)] rfl rfl 40 _ (Blk.new w4 40 #[.int .i64 0, .int .i64 0, .int .i64 0]) obj_size rfl (by simp [Value.oneCell']) ?_; intro w5 k5 hg5; have b5 := (b4.alloc z4 _).grown hg5 (b4.alloc z4 _).size (fun j hj => by injection hj with hj; omega); clear hg5)
      | ((with_reducible refine at_load 40 _ ?_); refine wpList_load_row rfl 40 _ rfl w4.heap.size rfl _ #[.int .i64 (x : Nat), .int .i64 (y : Nat), .int .i64 (z : Nat)] (0, 0) _ k5 Try.underlying40 rfl obj_size ?_)
      | (go_at_call 23; refine (refOBetween_row r HB.out around x y z hx _).mono ?_; rintro e w6 ⟨rfl, b6⟩; replace b6 := b5.trans (b6.mono b5.size)))
    go_ret3
    rw [← HE.out]
    exact ⟨rfl, b6⟩
  | false =>
  have HW2 := Lib.hid ((if_neg (show ¬ inS key [123, 125, 66] = true by rw [hi2]; decide)).symm.trans HW1.out)
  have HI2 := Lib.hid hi2
  clear HW1 hi2
  by_cases hq : key = 34 ∨ key = 39
  · rcases hq with hq | hq
    · subst hq
      have HE : Hid (betweenM (quoteAt (quotesM S (ofL S (a : Nat) : Nat) 34) a) around = v) := by have := HW2.out; rwa [if_pos (by decide)] at this
      clear HW2
      obtain ⟨q, hq2⟩ : ∃ q, ofL S (a : Nat) = q := ⟨_, rfl⟩
      rw [hq2] at HE
      have HQ := Lib.hid hq2
      clear hq2
      obtain ⟨hin, hlen⟩ := quotes_in S (q : Nat) 34
      obtain ⟨l, hl⟩ : ∃ l, quotesM S (q : Nat) 34 = l := ⟨_, rfl⟩
      rw [hl] at HE hlen hin
      have HL := Lib.hid hl
      clear hl
      have HAb := Lib.hid (abo_row l (by omega) (fun x hx => by have := hin x hx; unfold InO at this; omega) a (by omega))
      have HB : Hid (∀ x, quoteAt l a = some x → x.1 ≤ 1000000 ∧ x.2.1 ≤ 1000000) := fun x hx => by have := hin x (quote_mem hx); unfold InO at this; omega
      have HS := Lib.hid (quoteTo_start l a)
      generalize hr0 : aboutM l a = r0 at *
      clear hr0
      go_enter Try.func9, Try.ntmps9
      go_upto_region 18 with (first
        | (go_at_call 10; refine (refMAlign S hS p _).mono ?_; rw [HA.out]; rintro e w1 ⟨rfl, b1⟩)
        | (go_at_call 18; refine use_factM b11 ?_; intro _; refine (refGIn_cur 34 _).mono ?_; rw [HI2.out]; rintro e w12 ⟨rfl, b12⟩; replace b12 := b11.trans (b12.mono b11.size))
        | (go_at_call 18; refine use_factM b10 ?_; intro _; refine (refGIn_squ 34 _).mono ?_; rw [HI1.out]; rintro e w11 ⟨rfl, b11⟩; replace b11 := b10.trans (b11.mono b10.size))
        | (go_at_call 18; refine (refGIn_par 34 _).mono ?_; rw [HI0.out]; rintro e w10 ⟨rfl, b10⟩; replace b10 := b1.trans (b10.mono b1.size))
        | (go_at_call 21; refine (refOf_any S hS (a : Nat) _).mono ?_; rw [HQ.out]; rintro e w2 ⟨rfl, b2⟩; replace b2 := b12.trans (b2.mono b12.size))
        | (go_at_call 20; refine (refOQuotes_any S hS (q : Nat) 34 _).mono ?_; rw [HL.out]; rintro e w3 ⟨A3, c3, rfl, own3, b3⟩; replace b3 := b2.trans (b3.mono b2.size); have R3 := Lib.hid (Row.of_own own3); clear own3)
        | (go_at_call 22; refine (HAb.out _ A3 c3 R3.out).mono ?_; rintro e w4 ⟨x, y, z, hx, rfl, b4⟩; have z4 := b4.size)
        | ((with_reducible refine at_store 40 (.tmp 15) (.tmp 72) ?_); refine wpList_setRow rfl 40 (.tmp 15) (.tmp 72) rfl w4.heap.size #[.int .i64 (x : Nat), .int .i64 (y : Nat), .int .i64 (z : Nat)] rfl rfl 40 _ (Blk.new w4 40 #[.int .i64 0, .int .i64 0, .int .i64 0]) obj_size rfl (by simp [Value.oneCell']) ?_; intro w5 k5 hg5; have b5 := (b4.alloc z4 _).grown hg5 (b4.alloc z4 _).size (fun j hj => by injection hj with hj; omega); clear hg5))
      obtain ⟨g4, hg4⟩ : ∃ g, w4.heap.size = g := ⟨_, rfl⟩
      rw [hg4]
      rw [hg4] at k5 z4
      clear hg4
      go_loopw [16, 17] (fun is_ i wr => ∃ (k : Nat) (best : Option RwO), k ≤ l.length ∧ i = .int .i64 k ∧ is_ = .bool best.isSome ∧ Hid (quoteAt l a = quoteTo l a k best) ∧ Blk wr g4 40 (rowV (best.getD (0, 0, 0))).toArray ∧ Below w3.heap.size w3 wr) (fun _ i _ => l.length - (intOf i).toNat)
      case atStart => exact ⟨0, r0, Nat.zero_le _, rfl, rfl, HS, by rw [hx]; exact k5, b5⟩
      case round =>
        clear k5 b5 HS
        obtain ⟨k, best, hk, rfl, rfl, HT, k6, hb⟩ := hrel
        rcases best with _ | b
        · by_cases hlt : k < l.length
          · have hlt' : (k : Int) < (l.length : Int) := by omega
            have hk0 : (0 : Int) ≤ (k : Int) := by omega
            obtain ⟨ad, rfl, hadb, c0, c1, c2⟩ := obj_at (R3.out.below hb) hlt
            have hx1 := hin _ (List.getElem_mem hlt)
            unfold InO at hx1
            by_cases h : a < l[k].1
            · have HT2 := Lib.hid (HT.out.trans (quoteTo_hit hlt h))
              have h' : (a : Int) < (l[k].1 : Int) := by omega
              generalize l[k] = r at *
              go_wp2_with ((with_reducible refine at_store 40 (.tmp 15) (.tmp 94) ?_); refine wpList_setRow rfl 40 (.tmp 15) (.tmp 94) rfl g4 #[.int .i64 (r.1 : Nat), .int .i64 (r.2.1 : Nat), .int .i64 (r.2.2 : Nat)] rfl rfl 40 _ k6 obj_size rfl (by simp [Value.oneCell']) ?_; intro w7 k7 hg7)
              go_roundw
              case rel => exact ⟨k + 1, some r, by omega, by go_num, rfl, HT2, k7, hb.grown hg7 hb.size (fun j hj => by injection hj with hj; omega)⟩
              case measure => simp [intOf]; omega
            · have HT2 := Lib.hid (HT.out.trans (quoteTo_miss hlt h))
              have h' : ¬ (a : Int) < (l[k].1 : Int) := by omega
              generalize l[k] = r at *
              go_wp2_with fail
              go_roundw
              case rel => exact ⟨k + 1, none, by omega, by go_num, rfl, HT2, k6, hb⟩
              case measure => simp [intOf]; omega
          · obtain rfl : k = l.length := by omega
            have HF : Hid (none = v) := by rw [← HE.out, HT.out, quoteTo_end]; rfl
            have hlt' : ¬ (l.length : Int) < (l.length : Int) := by omega
            have k6' : Blk wr g4 40 #[.int .i64 0, .int .i64 0, .int .i64 0] := k6
            have HN : Hid (∀ wz, Calls Try.prog 23 #[.agg #[.int .i64 0, .int .i64 0, .int .i64 0], .bool false, .bool around] wz (GivesIIB wz none)) := fun wz => refOBetween_any none (fun x hx => by cases hx) around wz
            go_wp2_with (first
              | ((with_reducible refine at_load 40 _ ?_); refine wpList_load_row rfl 40 _ rfl g4 rfl _ #[.int .i64 0, .int .i64 0, .int .i64 0] (0, 0) _ k6' Try.underlying40 rfl obj_size ?_)
              | (go_at_call 23; refine (HN.out _).mono ?_; rintro e w8 ⟨rfl, b8⟩; replace b8 := b3.trans ((hb.trans (b8.mono hb.size)).mono b3.size)))
            go_ret3
            rw [← HF.out]
            exact ⟨rfl, b8⟩
        · have HF : Hid (betweenM (some b) around = v) := by rw [← HE.out, HT.out]; rfl
          have k6' : Blk wr g4 40 #[.int .i64 (b.1 : Nat), .int .i64 (b.2.1 : Nat), .int .i64 (b.2.2 : Nat)] := k6
          have hbb := HB.out b HT.out
          have HN : Hid (∀ wz, Calls Try.prog 23 #[.agg #[.int .i64 (b.1 : Nat), .int .i64 (b.2.1 : Nat), .int .i64 (b.2.2 : Nat)], .bool true, .bool around] wz (GivesIIB wz (betweenM (some b) around))) := fun wz => refOBetween_any (some b) (fun x hx => by injection hx with hx; subst hx; exact hbb) around wz
          generalize betweenM (some b) around = rv at *
          have hlc : (k : Int) < (l.length : Int) ∨ ¬ (k : Int) < (l.length : Int) := Classical.em _
          rcases hlc with hlt' | hlt' <;>
          · go_wp2_with (first
              | ((with_reducible refine at_load 40 _ ?_); refine wpList_load_row rfl 40 _ rfl g4 rfl _ #[.int .i64 (b.1 : Nat), .int .i64 (b.2.1 : Nat), .int .i64 (b.2.2 : Nat)] (0, 0) _ k6' Try.underlying40 rfl obj_size ?_)
              | (go_at_call 23; refine (HN.out _).mono ?_; rintro e w8 ⟨rfl, b8⟩; replace b8 := b3.trans ((hb.trans (b8.mono hb.size)).mono b3.size)))
            go_ret3
            rw [← HF.out]
            exact ⟨rfl, b8⟩
    · subst hq
      have HE : Hid (betweenM (quoteAt (quotesM S (ofL S (a : Nat) : Nat) 39) a) around = v) := by have := HW2.out; rwa [if_pos (by decide)] at this
      clear HW2
      obtain ⟨q, hq2⟩ : ∃ q, ofL S (a : Nat) = q := ⟨_, rfl⟩
      rw [hq2] at HE
      have HQ := Lib.hid hq2
      clear hq2
      obtain ⟨hin, hlen⟩ := quotes_in S (q : Nat) 39
      obtain ⟨l, hl⟩ : ∃ l, quotesM S (q : Nat) 39 = l := ⟨_, rfl⟩
      rw [hl] at HE hlen hin
      have HL := Lib.hid hl
      clear hl
      have HAb := Lib.hid (abo_row l (by omega) (fun x hx => by have := hin x hx; unfold InO at this; omega) a (by omega))
      have HB : Hid (∀ x, quoteAt l a = some x → x.1 ≤ 1000000 ∧ x.2.1 ≤ 1000000) := fun x hx => by have := hin x (quote_mem hx); unfold InO at this; omega
      have HS := Lib.hid (quoteTo_start l a)
      generalize hr0 : aboutM l a = r0 at *
      clear hr0
      go_enter Try.func9, Try.ntmps9
      go_upto_region 18 with (first
        | (go_at_call 10; refine (refMAlign S hS p _).mono ?_; rw [HA.out]; rintro e w1 ⟨rfl, b1⟩)
        | (go_at_call 18; refine use_factM b11 ?_; intro _; refine (refGIn_cur 39 _).mono ?_; rw [HI2.out]; rintro e w12 ⟨rfl, b12⟩; replace b12 := b11.trans (b12.mono b11.size))
        | (go_at_call 18; refine use_factM b10 ?_; intro _; refine (refGIn_squ 39 _).mono ?_; rw [HI1.out]; rintro e w11 ⟨rfl, b11⟩; replace b11 := b10.trans (b11.mono b10.size))
        | (go_at_call 18; refine (refGIn_par 39 _).mono ?_; rw [HI0.out]; rintro e w10 ⟨rfl, b10⟩; replace b10 := b1.trans (b10.mono b1.size))
        | (go_at_call 21; refine (refOf_any S hS (a : Nat) _).mono ?_; rw [HQ.out]; rintro e w2 ⟨rfl, b2⟩; replace b2 := b12.trans (b2.mono b12.size))
        | (go_at_call 20; refine (refOQuotes_any S hS (q : Nat) 39 _).mono ?_; rw [HL.out]; rintro e w3 ⟨A3, c3, rfl, own3, b3⟩; replace b3 := b2.trans (b3.mono b2.size); have R3 := Lib.hid (Row.of_own own3); clear own3)
        | (go_at_call 22; refine (HAb.out _ A3 c3 R3.out).mono ?_; rintro e w4 ⟨x, y, z, hx, rfl, b4⟩; have z4 := b4.size)
        | ((with_reducible refine at_store 40 (.tmp 15) (.tmp 72) ?_); refine wpList_setRow rfl 40 (.tmp 15) (.tmp 72) rfl w4.heap.size #[.int .i64 (x : Nat), .int .i64 (y : Nat), .int .i64 (z : Nat)] rfl rfl 40 _ (Blk.new w4 40 #[.int .i64 0, .int .i64 0, .int .i64 0]) obj_size rfl (by simp [Value.oneCell']) ?_; intro w5 k5 hg5; have b5 := (b4.alloc z4 _).grown hg5 (b4.alloc z4 _).size (fun j hj => by injection hj with hj; omega); clear hg5))
      obtain ⟨g4, hg4⟩ : ∃ g, w4.heap.size = g := ⟨_, rfl⟩
      rw [hg4]
      rw [hg4] at k5 z4
      clear hg4
      go_loopw [16, 17] (fun is_ i wr => ∃ (k : Nat) (best : Option RwO), k ≤ l.length ∧ i = .int .i64 k ∧ is_ = .bool best.isSome ∧ Hid (quoteAt l a = quoteTo l a k best) ∧ Blk wr g4 40 (rowV (best.getD (0, 0, 0))).toArray ∧ Below w3.heap.size w3 wr) (fun _ i _ => l.length - (intOf i).toNat)
      case atStart => exact ⟨0, r0, Nat.zero_le _, rfl, rfl, HS, by rw [hx]; exact k5, b5⟩
      case round =>
        clear k5 b5 HS
        obtain ⟨k, best, hk, rfl, rfl, HT, k6, hb⟩ := hrel
        rcases best with _ | b
        · by_cases hlt : k < l.length
          · have hlt' : (k : Int) < (l.length : Int) := by omega
            have hk0 : (0 : Int) ≤ (k : Int) := by omega
            obtain ⟨ad, rfl, hadb, c0, c1, c2⟩ := obj_at (R3.out.below hb) hlt
            have hx1 := hin _ (List.getElem_mem hlt)
            unfold InO at hx1
            by_cases h : a < l[k].1
            · have HT2 := Lib.hid (HT.out.trans (quoteTo_hit hlt h))
              have h' : (a : Int) < (l[k].1 : Int) := by omega
              generalize l[k] = r at *
              go_wp2_with ((with_reducible refine at_store 40 (.tmp 15) (.tmp 94) ?_); refine wpList_setRow rfl 40 (.tmp 15) (.tmp 94) rfl g4 #[.int .i64 (r.1 : Nat), .int .i64 (r.2.1 : Nat), .int .i64 (r.2.2 : Nat)] rfl rfl 40 _ k6 obj_size rfl (by simp [Value.oneCell']) ?_; intro w7 k7 hg7)
              go_roundw
              case rel => exact ⟨k + 1, some r, by omega, by go_num, rfl, HT2, k7, hb.grown hg7 hb.size (fun j hj => by injection hj with hj; omega)⟩
              case measure => simp [intOf]; omega
            · have HT2 := Lib.hid (HT.out.trans (quoteTo_miss hlt h))
              have h' : ¬ (a : Int) < (l[k].1 : Int) := by omega
              generalize l[k] = r at *
              go_wp2_with fail
              go_roundw
              case rel => exact ⟨k + 1, none, by omega, by go_num, rfl, HT2, k6, hb⟩
              case measure => simp [intOf]; omega
          · obtain rfl : k = l.length := by omega
            have HF : Hid (none = v) := by rw [← HE.out, HT.out, quoteTo_end]; rfl
            have hlt' : ¬ (l.length : Int) < (l.length : Int) := by omega
            have k6' : Blk wr g4 40 #[.int .i64 0, .int .i64 0, .int .i64 0] := k6
            have HN : Hid (∀ wz, Calls Try.prog 23 #[.agg #[.int .i64 0, .int .i64 0, .int .i64 0], .bool false, .bool around] wz (GivesIIB wz none)) := fun wz => refOBetween_any none (fun x hx => by cases hx) around wz
            go_wp2_with (first
              | ((with_reducible refine at_load 40 _ ?_); refine wpList_load_row rfl 40 _ rfl g4 rfl _ #[.int .i64 0, .int .i64 0, .int .i64 0] (0, 0) _ k6' Try.underlying40 rfl obj_size ?_)
              | (go_at_call 23; refine (HN.out _).mono ?_; rintro e w8 ⟨rfl, b8⟩; replace b8 := b3.trans ((hb.trans (b8.mono hb.size)).mono b3.size)))
            go_ret3
            rw [← HF.out]
            exact ⟨rfl, b8⟩
        · have HF : Hid (betweenM (some b) around = v) := by rw [← HE.out, HT.out]; rfl
          have k6' : Blk wr g4 40 #[.int .i64 (b.1 : Nat), .int .i64 (b.2.1 : Nat), .int .i64 (b.2.2 : Nat)] := k6
          have hbb := HB.out b HT.out
          have HN : Hid (∀ wz, Calls Try.prog 23 #[.agg #[.int .i64 (b.1 : Nat), .int .i64 (b.2.1 : Nat), .int .i64 (b.2.2 : Nat)], .bool true, .bool around] wz (GivesIIB wz (betweenM (some b) around))) := fun wz => refOBetween_any (some b) (fun x hx => by injection hx with hx; subst hx; exact hbb) around wz
          generalize betweenM (some b) around = rv at *
          have hlc : (k : Int) < (l.length : Int) ∨ ¬ (k : Int) < (l.length : Int) := Classical.em _
          rcases hlc with hlt' | hlt' <;>
          · go_wp2_with (first
              | ((with_reducible refine at_load 40 _ ?_); refine wpList_load_row rfl 40 _ rfl g4 rfl _ #[.int .i64 (b.1 : Nat), .int .i64 (b.2.1 : Nat), .int .i64 (b.2.2 : Nat)] (0, 0) _ k6' Try.underlying40 rfl obj_size ?_)
              | (go_at_call 23; refine (HN.out _).mono ?_; rintro e w8 ⟨rfl, b8⟩; replace b8 := b3.trans ((hb.trans (b8.mono hb.size)).mono b3.size)))
            go_ret3
            rw [← HF.out]
            exact ⟨rfl, b8⟩
  · have HE : Hid (none = v) := by have := HW2.out; rwa [if_neg hq] at this
    have q1 : (key == 34) = false := by rw [beq_eq_false_iff_ne]; omega
    have q2 : (key == 39) = false := by rw [beq_eq_false_iff_ne]; omega
    clear HW2 hq
    have HAb := Lib.hid (abo_row [] (by decide) (fun x hx => by cases hx) a (by omega))
    have HB : Hid (∀ x, aboutM [] a = some x → x.1 ≤ 1000000 ∧ x.2.1 ≤ 1000000) := fun x hx => by cases hx
    have HN : Hid (betweenM (aboutM [] a) around = none) := rfl
    generalize aboutM [] a = r at *
    go_enter Try.func9, Try.ntmps9
    go_wp2_with (first
      | (go_at_call 10; refine (refMAlign S hS p _).mono ?_; rw [HA.out]; rintro e w1 ⟨rfl, b1⟩)
      | (go_at_call 18; refine use_factM b11 ?_; intro _; refine (refGIn_cur key _).mono ?_; rw [HI2.out]; rintro e w12 ⟨rfl, b12⟩; replace b12 := b11.trans (b12.mono b11.size))
      | (go_at_call 18; refine use_factM b10 ?_; intro _; refine (refGIn_squ key _).mono ?_; rw [HI1.out]; rintro e w11 ⟨rfl, b11⟩; replace b11 := b10.trans (b11.mono b10.size))
      | (go_at_call 18; refine (refGIn_par key _).mono ?_; rw [HI0.out]; rintro e w10 ⟨rfl, b10⟩; replace b10 := b1.trans (b10.mono b1.size))
      | (go_at_call 22; refine (HAb.out _ none 0 (.inl rfl)).mono ?_; rintro e w4 ⟨x, y, z, hx, rfl, b4⟩; replace b4 := b12.trans (b4.mono b12.size); have z4 := b4.size)
      | ((with_reducible refine at_store 40 (.tmp 18) (.tmp 106) ?_); refine wpList_setRow rfl 40 (.tmp 18) (.tmp 106) rfl w4.heap.size #[.int .i64 (x : Nat), .int .i64 (y : Nat), .int .i64 (z : Nat)] rfl rfl 40 _ (Blk.new w4 40 #[.int .i64 0, .int .i64 0, .int .i64 0]) obj_size rfl (by simp [Value.oneCell']) ?_; intro w5 k5 hg5; have b5 := (b4.alloc z4 _).grown hg5 (b4.alloc z4 _).size (fun j hj => by injection hj with hj; omega); clear hg5)
      | ((with_reducible refine at_load 40 _ ?_); refine wpList_load_row rfl 40 _ rfl w4.heap.size rfl _ #[.int .i64 (x : Nat), .int .i64 (y : Nat), .int .i64 (z : Nat)] (0, 0) _ k5 Try.underlying40 rfl obj_size ?_)
      | (go_at_call 23; refine (refOBetween_row r HB.out around x y z hx _).mono ?_; rintro e w6 ⟨rfl, b6⟩; replace b6 := b5.trans (b6.mono b5.size)))
    go_ret3
    rw [← HE.out, HN.out]
    exact ⟨rfl, b6⟩
end Go.Proofs.Ytnkhlallnblfmaa

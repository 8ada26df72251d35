/-
  slices.Replace at pieces, walked: some in the middle, in place: layer 5.
-/
import Derived.Test.YtacpfkkbjibmgaaPieRep2
namespace Go.Proofs.Ytacpfkkbjibmgaa
open Go.RowKit

set_option maxRecDepth 100000 in
set_option maxHeartbeats 4000000 in
/-- fewer, or as many -/
theorem pieReplace_less (b2 n c m i j d : Nat) (g : Nat) (x : Value) (cs L ds : List Value) (w : World) (hs : Held w g n c cs L) (hx : w.ownsRow b2 73 3 x m ds) (hij : i < j) (hjn : j < n) (hd : n - j = d) (hless : i + m ≤ j)
    (hcl : cs.length = n * 3) (h1c : ∀ u ∈ cs, u.oneCell' = true) (h1d : ∀ u ∈ ds, u.oneCell' = true) :
    Calls Try.prog 33 #[.slice (some ⟨g, 0, none⟩) n c, .int .i64 (i : Nat), .int .i64 (j : Nat), x] w fun e w' =>
      e = .returned (.slice (some ⟨g, 0, none⟩) (i + m + d) c) ∧ (∃ L', Held w' g (i + m + d) c (cs.take (i * 3) ++ ds ++ cs.drop (j * 3)) L') ∧ w.grownBy w' (some g) := by
  have hmx := hs.max
  have hfit := hs.fit
  have hlen := hs.len
  have hdl := hx.1
  unfold maxLen at hmx
  have HS := Lib.hid hs
  have HX := Lib.hid hx
  have hd0 : 0 < d := by omega
  have hdn : d ≤ n := by omega
  have hdj : j + d = n := by omega
  have hcsl : L.take (n * 3) = cs := hs.cells
  have HCSL := Lib.hid hcsl
  clear hs hx hcsl
  have hz1 : ((i : Int) == (j : Int)) = false := by simp; omega
  have hz2 : ((j : Int) == (n : Int)) = false := by simp; omega
  have hz3 : ¬ (c : Int) < (i : Int) + (m : Int) + (d : Int) := by omega
  have hz4 : (i : Int) ≤ (j : Int) := by omega
  have hz5 : (j : Int) ≤ (c : Int) := by omega
  have hz6 : (i : Int) ≤ (c : Int) := by omega
  have hz7 : (j : Int) ≤ (n : Int) := by omega
  have hz8 : (i : Int) + (m : Int) ≤ (j : Int) := by omega
  have hz9 : (i : Int) + (m : Int) + (d : Int) ≤ (c : Int) := by omega
  have hw1 := wrap_small ((i : Int) + (m : Int)) (by omega) (by omega)
  have hw2 := wrap_small ((i : Int) + (m : Int) + (d : Int)) (by omega) (by omega)
  have hci : ¬ c = i := by omega
  have hcj : ¬ c = j := by omega
  have hcim : ¬ c = i + m := by omega
  have hb0 : (0 : Int) ≤ (i : Int) + (m : Int) + (d : Int) := by omega
  have hb1 : (0 : Int) ≤ (i : Int) + (m : Int) := by omega
  have htn : ((i : Int) + (m : Int)).toNat = i + m := by omega
  have htn2 : ((i : Int) + (m : Int) + (d : Int)).toNat = i + m + d := by omega
  have hb3 : (i : Int) ≤ (i : Int) + (m : Int) + (d : Int) := by omega
  have hb4 : (i : Int) + (m : Int) ≤ (i : Int) + (m : Int) + (d : Int) := by omega
  have hb5 : (i : Int) + (m : Int) + (d : Int) ≤ (n : Int) := by omega
  obtain ⟨X0, c0, hxf⟩ := own_form HX.out
  have HXF := Lib.hid hxf
  rw [hxf]
  clear hxf
  go_enter Try.func33, Try.ntmps33
  go_wp2_with fail
  go_quiet (fail)
  have HS1 := Lib.hid (HS.out.drewN nq)
  have HX1 : Hid ((w.drewN nq).ownsRow b2 73 3 (.slice X0 m c0) m ds) := by rw [← HXF.out]; exact own_keep HX.out (below_drewN (Below.refl _ w) nq) (Nat.le_refl _)
  have HG0 : Hid (w.grownBy (w.drewN nq) (some g)) := grown_drew (grown_refl w _) nq
  generalize w.drewN nq = w1 at *
  clear HS HX HXF
  have hdl2 : (cs.drop (j * 3)).length = d * 3 := by rw [List.length_drop, hcl]; omega
  have HDL := Lib.hid hdl
  have HDL2 := Lib.hid hdl2
  have hl1 : (splice L (i * 3) ds).length = L.length := length_splice _ _ _ (by rw [hdl, hlen]; omega)
  have HL1 := Lib.hid hl1
  have HLEN := Lib.hid hlen
  have HCL := Lib.hid hcl
  clear hdl hdl2 hl1 hlen hcl
  have hcpA : Hid (∀ ty dc, (Builtin.copy_ #[52, 52] ty #[.slice (some ⟨g, i * 3, none⟩) (i + m + d - i) dc, .slice X0 m c0]).run Try.prog w1 = .ok (goInt m) (w1.setRow g (splice L (i * 3) ds).toArray)) := fun ty dc =>
    run_copy_own HX1.out HS1.out.blk (by omega) (by rw [HLEN.out]; omega) h1d
  have HB2 : Hid (Blk ((w1.setRow g (splice L (i * 3) ds).toArray).drew) g 73 (splice L (i * 3) ds).toArray) := (HS1.out.blk.setRow _).drew
  have HG2 : Hid (w.grownBy ((w1.setRow g (splice L (i * 3) ds).toArray).drew) (some g)) := grown_drew (grown_trans HG0.out (grown_setRow _ _ _)) 1
  generalize hW1 : w1.setRow g (splice L (i * 3) ds).toArray = W1 at *
  clear hW1
  have HSRC : Hid (∀ q v, (cs.drop (j * 3))[q]? = some v → W1.drew.cell? ((⟨g, j * 3, none⟩ : Addr).add q) = some v) := by
    intro q v hq
    have hadd : (⟨g, j * 3, none⟩ : Addr).add q = ⟨g, j * 3 + q, none⟩ := by unfold Addr.add; split <;> simp_all
    rw [hadd, HB2.out.cell, List.getElem?_toArray, splice_get_far _ _ _ _ (by rw [HDL.out, HLEN.out]; omega) (.inr (by rw [HDL.out]; omega))]
    rw [List.getElem?_drop, ← HCSL.out, List.getElem?_take] at hq
    split at hq
    · exact hq
    · cases hq
  have hcpB : Hid (∀ ty dc sc, (Builtin.copy_ #[52, 52] ty #[.slice (some ⟨g, (i + m) * 3, none⟩) d dc, .slice (some ⟨g, j * 3, none⟩) d sc]).run Try.prog W1.drew = .ok (goInt (d : Nat)) (W1.drew.setRow g (splice (splice L (i * 3) ds) ((i + m) * 3) (cs.drop (j * 3))).toArray)) := fun ty dc sc =>
    run_copy_pie HB2.out (by simp only [Nat.min_def]; split <;> omega) _ HDL2.out HSRC.out (by rw [HL1.out, HDL2.out, HLEN.out]; omega) (fun u hu => h1c u (List.mem_of_mem_drop hu))
  have F := fill_take L ds (cs.drop (j * 3)) (i * 3) (by rw [HDL.out, HDL2.out, HLEN.out]; omega)
  rw [HDL.out, ← Nat.add_mul, HDL2.out, ← Nat.add_mul] at F
  have HF := Lib.hid F
  clear F
  have HB3 : Hid (Blk (W1.drew.setRow g (splice (splice L (i * 3) ds) ((i + m) * 3) (cs.drop (j * 3))).toArray) g 73 (splice (splice L (i * 3) ds) ((i + m) * 3) (cs.drop (j * 3))).toArray) := HB2.out.setRow _
  have HG3 : Hid (w.grownBy (W1.drew.setRow g (splice (splice L (i * 3) ds) ((i + m) * 3) (cs.drop (j * 3))).toArray) (some g)) := grown_trans HG2.out (grown_setRow _ _ _)
  generalize hW2 : W1.drew.setRow g (splice (splice L (i * 3) ds) ((i + m) * 3) (cs.drop (j * 3))).toArray = W2 at *
  clear hW2
  generalize splice (splice L (i * 3) ds) ((i + m) * 3) (cs.drop (j * 3)) = L2 at *
  have hL2 : L2.take ((i + m + d) * 3) = cs.take (i * 3) ++ ds ++ cs.drop (j * 3) := by rw [HF.out.1, ← HCSL.out, List.take_take, Nat.min_eq_left (by omega)]
  have HL2 := Lib.hid hL2
  clear hL2
  by_cases htn0 : i + m + d = n
  · have hce : ∀ (A : Option Addr) (k c' : Nat), k = 0 → (Builtin.clear_ #[52] 0 #[.slice A k c']).run Try.prog W2 = .ok (.tuple #[]) W2 := fun A k c' e => by subst e; exact run_clear_none A
    have HCE := Lib.hid hce
    clear hce
    have hfin : Hid (Held W2 g (i + m + d) c (cs.take (i * 3) ++ ds ++ cs.drop (j * 3)) L2) := ⟨HB3.out, by omega, HS1.out.max, by rw [HF.out.2, HLEN.out], HL2.out⟩
    have HTN := Lib.hid htn0
    clear htn0
    go_wp2_with (first
      | ((with_reducible refine at_copy (.tmp 95) (.tmp 96) 52 52 ?_); refine wpList_copy_eq rfl (.tmp 95) (.tmp 96) 52 52 rfl _ _ rfl rfl (hcpA.out _ _) ?_))
    go_region_law (refine step_copy_eq rfl (.tmp 103) (.tmp 106) 52 52 rfl (.slice (some ⟨g, (i + m) * 3, none⟩) d (c - (i + m))) (.slice (some ⟨g, j * 3, none⟩) d (c - j)) (by simp [Act.eval, Act.put]) (by simp [Act.eval, Act.put]) (hcpB.out _ _ _) ?_)
    go_wp2_with ((with_reducible refine at_clear (.tmp 110) 52 ?_); refine wpList_clear_eq rfl (.tmp 110) 52 rfl _ rfl (HCE.out _ _ _ (by have := HTN.out; omega)) ?_)
    all_goals
      go_ret
      first
        | exact ⟨rfl, ⟨_, by rw [← List.append_assoc]; exact hfin.out⟩, HG3.out⟩
        | (have hc : c = i + m + d := by assumption
           have hf := hfin.out
           rw [hc] at hf
           exact ⟨rfl, ⟨_, by rw [← List.append_assoc]; exact hf⟩, HG3.out⟩)
  · obtain ⟨X, hX, hcr⟩ := run_clear_pie (ty := 0) (o := (i + m + d) * 3) (k := n - (i + m + d)) (c := c - (i + m + d)) HB3.out (by rw [HF.out.2, HLEN.out]; omega)
    have HC := Lib.hid hcr
    have hct : ¬ c = i + m + d := by omega
    have HFIN : Hid (Held (W2.setRow g (splice L2 ((i + m + d) * 3) X).toArray) g (i + m + d) c (cs.take (i * 3) ++ ds ++ cs.drop (j * 3)) (splice L2 ((i + m + d) * 3) X)) :=
      ⟨HB3.out.setRow _, by omega, HS1.out.max, by rw [length_splice _ _ _ (by rw [hX, HF.out.2, HLEN.out]; omega), HF.out.2, HLEN.out], by rw [splice_take_low _ _ _ _ (Nat.le_refl _) (by rw [HF.out.2, HLEN.out]; omega)]; exact HL2.out⟩
    have HG4 : Hid (w.grownBy (W2.setRow g (splice L2 ((i + m + d) * 3) X).toArray) (some g)) := grown_trans HG3.out (grown_setRow _ _ _)
    have HTN := Lib.hid htn0
    clear hcr hX htn0
    go_wp2_with (first
      | ((with_reducible refine at_copy (.tmp 95) (.tmp 96) 52 52 ?_); refine wpList_copy_eq rfl (.tmp 95) (.tmp 96) 52 52 rfl _ _ rfl rfl (hcpA.out _ _) ?_))
    go_region_law (refine step_copy_eq rfl (.tmp 103) (.tmp 106) 52 52 rfl (.slice (some ⟨g, (i + m) * 3, none⟩) d (c - (i + m))) (.slice (some ⟨g, j * 3, none⟩) d (c - j)) (by simp [Act.eval, Act.put]) (by simp [Act.eval, Act.put]) (hcpB.out _ _ _) ?_)
    go_wp2_with ((with_reducible refine at_clear (.tmp 110) 52 ?_); refine wpList_clear_eq rfl (.tmp 110) 52 rfl _ rfl HC.out ?_)
    go_ret
    exact ⟨rfl, ⟨_, HFIN.out⟩, HG4.out⟩

set_option maxRecDepth 100000 in
set_option maxHeartbeats 4000000 in
/-- more -/
theorem pieReplace_more (b2 n c m i j d : Nat) (g : Nat) (x : Value) (cs L ds : List Value) (w : World) (hs : Held w g n c cs L) (hx : w.ownsRow b2 73 3 x m ds) (hne : x.ownBlock ≠ some g) (hij : i < j) (hjn : j < n) (hd : n - j = d) (hmore : j < i + m) (hroom : i + m + d ≤ c) (hn : n ≤ 100000) (hm2 : m ≤ 100000)
    (hcl : cs.length = n * 3) (h1c : ∀ u ∈ cs, u.oneCell' = true) (h1d : ∀ u ∈ ds, u.oneCell' = true) :
    Calls Try.prog 33 #[.slice (some ⟨g, 0, none⟩) n c, .int .i64 (i : Nat), .int .i64 (j : Nat), x] w fun e w' =>
      e = .returned (.slice (some ⟨g, 0, none⟩) (i + m + d) c) ∧ (∃ L', Held w' g (i + m + d) c (cs.take (i * 3) ++ ds ++ cs.drop (j * 3)) L') ∧ w.grownBy w' (some g) := by
  have hmx := hs.max
  have hfit := hs.fit
  have hlen := hs.len
  have hdl := hx.1
  unfold maxLen at hmx
  have HS := Lib.hid hs
  have hd0 : 0 < d := by omega
  have hdn : d ≤ n := by omega
  have hdj : j + d = n := by omega
  have hcsl : L.take (n * 3) = cs := hs.cells
  have HCSL := Lib.hid hcsl
  have hx0 : x ≠ .slice none 0 0 := fun e => by
    subst e
    rcases hx.2 with ⟨_, h⟩ | ⟨g, cap, cur, h, _⟩
    · omega
    · simp at h
  obtain ⟨gx, xc, Lx, rfl, _, hX⟩ := held_of hx hx0
  have hgne : gx ≠ g := fun e => hne (by rw [e]; rfl)
  have HX := Lib.hid hX
  clear hs hx hcsl hX hx0 hne
  have hz1 : ((i : Int) == (j : Int)) = false := by simp; omega
  have hz2 : ((j : Int) == (n : Int)) = false := by simp; omega
  have hz3 : ¬ (c : Int) < (i : Int) + (m : Int) + (d : Int) := by omega
  have hz4 : (i : Int) ≤ (j : Int) := by omega
  have hz5 : (j : Int) ≤ (c : Int) := by omega
  have hz6 : (i : Int) ≤ (c : Int) := by omega
  have hz7 : (j : Int) ≤ (n : Int) := by omega
  have hz8 : ¬ (i : Int) + (m : Int) ≤ (j : Int) := by omega
  have hz9 : (i : Int) + (m : Int) + (d : Int) ≤ (c : Int) := by omega
  have hw1 := wrap_small ((i : Int) + (m : Int)) (by omega) (by omega)
  have hw2 := wrap_small ((i : Int) + (m : Int) + (d : Int)) (by omega) (by omega)
  have hci : ¬ c = i := by omega
  have hcj : ¬ c = j := by omega
  have hcim : ¬ c = i + m := by omega
  have hb0 : (0 : Int) ≤ (i : Int) + (m : Int) + (d : Int) := by omega
  have hb1 : (0 : Int) ≤ (i : Int) + (m : Int) := by omega
  have htn : ((i : Int) + (m : Int)).toNat = i + m := by omega
  have htn2 : ((i : Int) + (m : Int) + (d : Int)).toNat = i + m + d := by omega
  have hb3 : (i : Int) ≤ (i : Int) + (m : Int) + (d : Int) := by omega
  have hb4 : (i : Int) + (m : Int) ≤ (i : Int) + (m : Int) + (d : Int) := by omega
  go_enter Try.func33, Try.ntmps33
  go_wp2_with fail
  go_quiet (fail)
  have HS1 := Lib.hid (HS.out.drewN nq)
  have HX1 := Lib.hid (HX.out.drewN nq)
  have HG0 : Hid (w.grownBy (w.drewN nq) (some g)) := grown_drew (grown_refl w _) nq
  generalize w.drewN nq = w1 at *
  clear HS HX
  have hdl2 : (cs.drop (j * 3)).length = d * 3 := by rw [List.length_drop, hcl]; omega
  have HDL := Lib.hid hdl
  have HDL2 := Lib.hid hdl2
  have hl1 : (splice L ((i + m) * 3) (cs.drop (j * 3))).length = L.length := length_splice _ _ _ (by rw [hdl2, hlen]; omega)
  have HL1 := Lib.hid hl1
  have HLEN := Lib.hid hlen
  clear hdl hdl2 hl1 hlen hcl
  have hov : ∀ o lb xb, (callFunc 41 #[.slice (some ⟨g, o, none⟩) lb xb, .slice (some ⟨gx, 0, none⟩) m xc]).run Try.prog w1 = .ok (.value (.bool false)) w1 := fun o lb xb =>
    run_overlaps HS1.out.blk HX1.out.blk hgne.symm (by rw [List.size_toArray, HX1.out.len]; have := HX1.out.fit; omega) o 0 lb xb m xc
  have hcp1 : Hid (∀ ty dc sc, (Builtin.copy_ #[52, 52] ty #[.slice (some ⟨g, (i + m) * 3, none⟩) d dc, .slice (some ⟨g, j * 3, none⟩) d sc]).run Try.prog w1.drew = .ok (goInt (d : Nat)) (w1.drew.setRow g (splice L ((i + m) * 3) (cs.drop (j * 3))).toArray)) := fun ty dc sc =>
    run_copy_pie (HS1.out.drewN 1).blk (by simp only [Nat.min_def]; split <;> omega) _ HDL2.out ((HS1.out.drewN 1).get (j * 3)) (by rw [HDL2.out, HLEN.out]; omega) (fun u hu => h1c u (List.mem_of_mem_drop hu))
  have HB1 : Hid (Blk (w1.drew.setRow g (splice L ((i + m) * 3) (cs.drop (j * 3))).toArray) g 73 (splice L ((i + m) * 3) (cs.drop (j * 3))).toArray) := (HS1.out.drewN 1).blk.setRow _
  have HX2 : Hid (Held (w1.drew.setRow g (splice L ((i + m) * 3) (cs.drop (j * 3))).toArray) gx m xc ds Lx) := ⟨(HX1.out.drewN 1).blk.rowFar hgne _, HX1.out.fit, HX1.out.max, HX1.out.len, HX1.out.cells⟩
  have HG1 : Hid (w.grownBy (w1.drew.setRow g (splice L ((i + m) * 3) (cs.drop (j * 3))).toArray) (some g)) := grown_trans HG0.out (grown_of_drew 1 (grown_setRow _ _ _))
  generalize hW1 : w1.drew.setRow g (splice L ((i + m) * 3) (cs.drop (j * 3))).toArray = W1 at *
  clear hW1
  have hcp2 : Hid (∀ ty dc, (Builtin.copy_ #[52, 52] ty #[.slice (some ⟨g, i * 3, none⟩) (i + m + d - i) dc, .slice (some ⟨gx, 0, none⟩) m xc]).run Try.prog W1 = .ok (goInt m) (W1.setRow g (splice (splice L ((i + m) * 3) (cs.drop (j * 3))) (i * 3) ds).toArray)) := fun ty dc =>
    run_copy_pie HB1.out (by simp only [Nat.min_def]; split <;> omega) ds HDL.out (by have := HX2.out.get 0; simpa using this) (by rw [HL1.out, HDL.out, HLEN.out]; omega) h1d
  go_wp2_with (simp only [hov])
  go_region_law (refine step_copy_eq rfl (.tmp 126) (.tmp 129) 52 52 rfl (.slice (some ⟨g, (i + m) * 3, none⟩) d (c - (i + m))) (.slice (some ⟨g, j * 3, none⟩) d (c - j)) (by simp [Act.eval, Act.put]) (by simp [Act.eval, Act.put]) (hcp1.out _ _ _) ?_)
  go_wp2_with ((with_reducible refine at_copy (.tmp 133) (.tmp 134) 52 52 ?_); refine wpList_copy_eq rfl (.tmp 133) (.tmp 134) 52 52 rfl _ _ rfl rfl (hcp2.out _ _) ?_)
  go_ret
  have F := shift_take L ds (cs.drop (j * 3)) (i * 3) (by rw [HDL.out, HDL2.out, HLEN.out]; omega)
  rw [HDL.out, ← Nat.add_mul, HDL2.out, ← Nat.add_mul] at F
  refine ⟨rfl, ⟨_, HB1.out.setRow _, hroom, HS1.out.max, by rw [F.2, HLEN.out], ?_⟩, grown_trans HG1.out (grown_setRow _ _ _)⟩
  first
    | rw [F.1, ← HCSL.out, List.take_take, Nat.min_eq_left (by omega)]
    | rw [F.1, ← HCSL.out, List.take_take, Nat.min_eq_left (by omega), List.append_assoc]
end Go.Proofs.Ytacpfkkbjibmgaa

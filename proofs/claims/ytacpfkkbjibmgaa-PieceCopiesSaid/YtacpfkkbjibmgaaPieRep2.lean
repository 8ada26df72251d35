/-
  slices.Replace at pieces, walked: some in the middle: layer 5.
-/
import Derived.Test.YtacpfkkbjibmgaaPieRep
namespace Go.Proofs.Ytacpfkkbjibmgaa
open Go.RowKit

set_option maxRecDepth 100000 in
set_option maxHeartbeats 4000000 in
/-- there is no room: a new row -/
theorem pieReplace_grow (b2 n c m i j d : Nat) (g : Nat) (x : Value) (cs L ds : List Value) (w : World) (hs : Held w g n c cs L) (hx : w.ownsRow b2 73 3 x m ds) (hij : i < j) (hjn : j < n) (hd : n - j = d) (hroom : c < i + m + d) (hn : n ≤ 100000) (hm2 : m ≤ 100000)
    (hcl : cs.length = n * 3) (h1c : ∀ u ∈ cs, u.oneCell' = true) (h1d : ∀ u ∈ ds, u.oneCell' = true) :
    Calls Try.prog 33 #[.slice (some ⟨g, 0, none⟩) n c, .int .i64 (i : Nat), .int .i64 (j : Nat), x] w fun e w' =>
      ∃ gn G, w.heap.size ≤ gn ∧ e = .returned (.slice (some ⟨gn, 0, none⟩) (i + m + d) G) ∧ (∃ L', Held w' gn (i + m + d) G (cs.take (i * 3) ++ ds ++ cs.drop (j * 3)) L') ∧ w.grownBy w' none := by
  have hmx := hs.max
  have hfit := hs.fit
  have hdl := hx.1
  unfold maxLen at hmx
  have HS := Lib.hid hs
  have HX := Lib.hid hx
  have HD := Lib.hid hd
  have hd0 : 0 < d := by omega
  have hdn : d ≤ n := by omega
  clear hs hx
  have hz1 : ((i : Int) == (j : Int)) = false := by simp; omega
  have hz2 : ((j : Int) == (n : Int)) = false := by simp; omega
  have hz3 : (c : Int) < (i : Int) + (m : Int) + (d : Int) := by omega
  have hz4 : (i : Int) ≤ (j : Int) := by omega
  have hz5 : (j : Int) ≤ (c : Int) := by omega
  have hz6 : (i : Int) ≤ (c : Int) := by omega
  have hz7 : (j : Int) ≤ (n : Int) := by omega
  have hw1 := wrap_small ((i : Int) + (m : Int)) (by omega) (by omega)
  have hw2 := wrap_small ((i : Int) + (m : Int) + (d : Int)) (by omega) (by omega)
  have hw3 := wrap_small ((i : Int) + (m : Int) + (d : Int) - (i : Int)) (by omega) (by omega)
  have hci : ¬ c = i := by omega
  have hcj : ¬ c = j := by omega
  obtain ⟨X0, c0, hxf⟩ := own_form HX.out
  have HXF := Lib.hid hxf
  rw [hxf]
  clear hxf
  go_enter Try.func33, Try.ntmps33
  go_wp2_with fail
  go_quiet (fail)
  have HS1 := Lib.hid (HS.out.drewN nq)
  have HX1 : Hid ((w.drewN nq).ownsRow b2 73 3 (.slice X0 m c0) m ds) := by rw [← HXF.out]; exact own_keep HX.out (below_drewN (Below.refl _ w) nq) (Nat.le_refl _)
  have HG0 : Hid (w.grownBy (w.drewN nq) none) := grown_drew (grown_refl w none) nq
  generalize w.drewN nq = wq at *
  clear HS HX HXF
  obtain ⟨G, LR, w1, hr, hH, hLR, hg1⟩ := run_append_make HS1.out hcl (by omega : i ≤ n) (m + d) (by omega) (by omega) (by omega) 52
  rw [show i + (m + d) = i + m + d by omega] at hr hH
  rw [show ((m + d : Nat) : Int) = (i : Int) + (m : Int) + (d : Int) - (i : Int) by omega] at hr
  have hGm := hH.max
  unfold maxLen at hGm
  have hGf := hH.fit
  have hgl := HS1.out.blk.lt
  have HR := Lib.hid hr
  have HH := Lib.hid hH
  have HLR := Lib.hid hLR
  have HLL := Lib.hid hH.len
  have HG1 := Lib.hid (grown_trans HG0.out hg1)
  have HS2 := Lib.hid (HS1.out.below hg1)
  have HX2 := Lib.hid (own_keep HX1.out (B := wq.heap.size) ⟨hg1.os, hg1.tape, hg1.output, hg1.size, fun k hk => hg1.block k hk (by simp)⟩ (Nat.le_refl _))
  have hdl2 : (cs.drop (j * 3)).length = d * 3 := by rw [List.length_drop, hcl]; omega
  have HDL := Lib.hid hdl
  have HDL2 := Lib.hid hdl2
  have HWQ : Hid (w.heap.size ≤ wq.heap.size) := HG0.out.size
  clear hr hH hLR hg1 hdl hdl2 hcl HS1 HX1 HG0
  obtain ⟨gn, hgn⟩ : ∃ gn, gn = wq.heap.size := ⟨_, rfl⟩
  rw [← hgn] at HH HR HWQ
  have hgne : g ≠ gn := by omega
  clear hgn hgl
  have hcpA : Hid (∀ ty dc, (Builtin.copy_ #[52, 52] ty #[.slice (some ⟨gn, i * 3, none⟩) (i + m + d - i) dc, .slice X0 m c0]).run Try.prog w1 = .ok (goInt m) (w1.setRow gn (splice LR (i * 3) ds).toArray)) := fun ty dc =>
    run_copy_own HX2.out HH.out.blk (by omega) (by rw [HLL.out]; omega) h1d
  have HB2 : Hid (Blk ((w1.setRow gn (splice LR (i * 3) ds).toArray).drew) gn 73 (splice LR (i * 3) ds).toArray) := (HH.out.blk.setRow _).drew
  have HS3 : Hid (Held ((w1.setRow gn (splice LR (i * 3) ds).toArray).drew) g n c cs L) := ⟨(HS2.out.blk.rowFar hgne _).drew, HS2.out.fit, HS2.out.max, HS2.out.len, HS2.out.cells⟩
  have HG2 : Hid (w.grownBy ((w1.setRow gn (splice LR (i * 3) ds).toArray).drew) none) := grown_drew (grown_new HG1.out (grown_setRow _ _ _) HWQ.out) 1
  generalize hW1 : w1.setRow gn (splice LR (i * 3) ds).toArray = W1 at *
  clear hW1
  have hcpB : Hid (∀ ty dc sc, (Builtin.copy_ #[52, 52] ty #[.slice (some ⟨gn, (i + m) * 3, none⟩) d dc, .slice (some ⟨g, j * 3, none⟩) d sc]).run Try.prog W1.drew = .ok (goInt (d : Nat)) (W1.drew.setRow gn (splice (splice LR (i * 3) ds) ((i + m) * 3) (cs.drop (j * 3))).toArray)) := fun ty dc sc =>
    run_copy_pie HB2.out (by simp only [Nat.min_def]; split <;> omega) _ HDL2.out (HS3.out.get (j * 3)) (by rw [length_splice _ _ _ (by rw [HDL.out, HLL.out]; omega), HDL2.out, HLL.out]; omega) (fun u hu => h1c u (List.mem_of_mem_drop hu))
  have hb1 : (0 : Int) ≤ (i : Int) + (m : Int) := by omega
  have htn : ((i : Int) + (m : Int)).toNat = i + m := by omega
  have hb3 : (i : Int) ≤ (i : Int) + (m : Int) + (d : Int) := by omega
  have hb4 : (i : Int) + (m : Int) ≤ (i : Int) + (m : Int) + (d : Int) := by omega
  have hGi : ¬ G = i := by omega
  have hGim : ¬ G = i + m := by omega
  go_wp2_with (first
    | (at_builtin; refine wpList_append_eq rfl _ _ _ _ rfl _ _ rfl rfl HR.out ?_)
    | ((with_reducible refine at_copy (.tmp 70) (.tmp 71) 52 52 ?_); refine wpList_copy_eq rfl (.tmp 70) (.tmp 71) 52 52 rfl _ _ rfl rfl (hcpA.out _ _) ?_))
  go_region_law (refine step_copy_eq rfl (.tmp 78) (.tmp 81) 52 52 rfl (.slice (some ⟨gn, (i + m) * 3, none⟩) d (G - (i + m))) (.slice (some ⟨g, j * 3, none⟩) d (c - j)) (by simp [Act.eval, Act.put]) (by simp [Act.eval, Act.put]) (hcpB.out _ _ _) ?_)
  go_wp2
  go_ret
  have F := fill_take LR ds (cs.drop (j * 3)) (i * 3) (by rw [HDL.out, HDL2.out, HLL.out]; omega)
  rw [HDL.out, ← Nat.add_mul, HDL2.out, ← Nat.add_mul] at F
  refine ⟨gn, G, HWQ.out, rfl, ⟨_, HB2.out.setRow _, by omega, HH.out.max, by rw [F.2, HLL.out], ?_⟩, grown_new HG2.out (grown_setRow _ _ _) HWQ.out⟩
  rw [F.1, HLR.out]
end Go.Proofs.Ytacpfkkbjibmgaa

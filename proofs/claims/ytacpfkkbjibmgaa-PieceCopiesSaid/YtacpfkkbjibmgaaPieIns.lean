/-
  slices.Insert at pieces, walked: layer 5.
-/
import Derived.Test.YtacpfkkbjibmgaaPieOver
namespace Go.Proofs.Ytacpfkkbjibmgaa
open Go.RowKit

/-- a row's block, its cells and its room -/
structure Held (w : World) (g n c : Nat) (cs L : List Value) : Prop where
  blk : Blk w g 73 L.toArray
  fit : n ≤ c
  max : c ≤ maxLen
  len : L.length = c * 3
  cells : L.take (n * 3) = cs
theorem Held.drewN {w : World} {g n c : Nat} {cs L : List Value} (h : Held w g n c cs L) (k : Nat) : Held (w.drewN k) g n c cs L := ⟨h.blk.drewN k, h.fit, h.max, h.len, h.cells⟩
theorem Held.get {w : World} {g n c : Nat} {cs L : List Value} (h : Held w g n c cs L) (o : Nat) : ∀ j v, (cs.drop o)[j]? = some v → w.cell? ((⟨g, o, none⟩ : Addr).add j) = some v := by
  intro j v hj
  have hadd : (⟨g, o, none⟩ : Addr).add j = ⟨g, o + j, none⟩ := by unfold Addr.add; split <;> simp_all
  rw [hadd, h.blk.cell]
  rw [List.getElem?_drop, ← h.cells, List.getElem?_take] at hj
  split at hj
  · simpa using hj
  · cases hj
theorem Held.own {w : World} {g n c b : Nat} {cs L : List Value} (h : Held w g n c cs L) (hb : b ≤ g) (hl : cs.length = n * 3) : w.ownsRow b 73 3 (.slice (some ⟨g, 0, none⟩) n c) n cs :=
  ⟨hl, .inr ⟨g, c, L.toArray, rfl, hb, h.blk, h.fit, h.max, by rw [List.size_toArray]; exact h.len, h.cells⟩⟩
theorem held_of {w : World} {b n : Nat} {v : Value} {cs : List Value} (h : w.ownsRow b 73 3 v n cs) (hv : v ≠ .slice none 0 0) : ∃ g c L, v = .slice (some ⟨g, 0, none⟩) n c ∧ b ≤ g ∧ Held w g n c cs L := by
  rcases h.2 with ⟨rfl, h0⟩ | ⟨g, cap, cur, rfl, hb, hg, hn, hm, hs, ht⟩
  · exact absurd rfl hv
  · exact ⟨g, cap, cur.toList, rfl, hb, ⟨by rw [Array.toArray_toList]; exact hg, hn, hm, by rw [Array.length_toList]; exact hs, ht⟩⟩

theorem pieInsert_none (A : Option Addr) (n c i : Nat) (hi : i ≤ n) (B : Option Addr) (xc : Nat) (w : World) :
    Calls Try.prog 40 #[.slice A n c, .int .i64 (i : Nat), .slice B 0 xc] w fun e w' => e = .returned (.slice A n c) ∧ w = w' := by
  have h1 : (i : Int) ≤ (n : Int) := by omega
  go_enter Try.func40, Try.ntmps40
  go_wp2
  all_goals
    go_ret
    exact ⟨rfl, rfl⟩

theorem pie_info : (Try.prog.info? 73).map (·.size) = some 3 := by
  obtain ⟨i, hi, _, h1, _⟩ := info_parts elt_pie.hi
  rw [hi]; simp [h1]
/-- copy into the row -/
theorem run_copy_pie {w : World} {ty g o dLen dCap sLen sCap k : Nat} {a : Addr} {L : List Value} (hg : Blk w g 73 L.toArray) (hk : Nat.min sLen dLen = k) (cs : List Value) (hn : cs.length = k * 3)
    (hsrc : ∀ j v, cs[j]? = some v → w.cell? (a.add j) = some v) (hfit : o + cs.length ≤ L.length) (h1 : ∀ v ∈ cs, v.oneCell' = true) :
    (Builtin.copy_ #[52, 52] ty #[.slice (some ⟨g, o, none⟩) dLen dCap, .slice (some a) sLen sCap]).run Try.prog w = .ok (goInt k) (w.setRow g (splice L o cs).toArray) :=
  run_copy_blk 52 52 ty 73 3 Try.underlying52 pie_info g o dLen dCap a sLen sCap L 73 hg k hk cs hn hsrc hfit h1

set_option maxHeartbeats 2000000 in
theorem pieInsert_shift (g n c gx m xc i : Nat) (cs L ds Lx : List Value) (w : World) (hs : Held w g n c cs L) (hx : Held w gx m xc ds Lx) (hne : gx ≠ g) (hi : i < n) (hm : 0 < m) (hroom : n + m ≤ c) (hn : n ≤ 100000) (hm2 : m ≤ 100000)
    (hcl : cs.length = n * 3) (hdl : ds.length = m * 3) (h1c : ∀ u ∈ cs, u.oneCell' = true) (h1d : ∀ u ∈ ds, u.oneCell' = true) :
    Calls Try.prog 40 #[.slice (some ⟨g, 0, none⟩) n c, .int .i64 (i : Nat), .slice (some ⟨gx, 0, none⟩) m xc] w fun e w' =>
      e = .returned (.slice (some ⟨g, 0, none⟩) (n + m) c) ∧ (∃ L', Held w' g (n + m) c (cs.take (i * 3) ++ ds ++ cs.drop (i * 3)) L') ∧ w.grownBy w' (some g) := by
  have hmx := hs.max
  unfold maxLen at hmx
  have hz1 : ¬ ((m : Int) = 0) := by omega
  have hz2 : ¬ ((i : Int) = (n : Int)) := by omega
  have hz3 : ¬ ((c : Int) < (n : Int) + (m : Int)) := by omega
  have hw1 : IntKind.i64.wrap ((i : Int) + (m : Int)) = (i : Int) + (m : Int) := wrap_small _ (by omega) (by omega)
  have hw2 : IntKind.i64.wrap ((n : Int) + (m : Int)) = (n : Int) + (m : Int) := wrap_small _ (by omega) (by omega)
  have hb1 : (0 : Int) ≤ (i : Int) + (m : Int) := by omega
  have hb0 : (i : Int) ≤ (n : Int) := by omega
  have htn : ((i : Int) + (m : Int)).toNat = i + m := by omega
  have htn2 : ((n : Int) + (m : Int)).toNat = n + m := by omega
  have hb2 : ¬ (c = i + m) := by omega
  have hb3 : (i : Int) ≤ (n : Int) + (m : Int) := by omega
  have hb4 : ¬ (c = i) := by omega
  have hb5 : (i : Int) + (m : Int) ≤ (n : Int) + (m : Int) := by omega
  have hb6 : (n : Int) + (m : Int) ≤ (c : Int) := by omega
  have hb7 : (0 : Int) ≤ (n : Int) + (m : Int) := by omega
  have hdl2 : (cs.drop (i * 3)).length = (n - i) * 3 := by rw [List.length_drop, hcl]; omega
  have HS := Lib.hid hs
  have HX := Lib.hid hx
  have hov : ∀ o lb xb, (callFunc 41 #[.slice (some ⟨gx, 0, none⟩) m xc, .slice (some ⟨g, o, none⟩) lb xb]).run Try.prog w = .ok (.value (.bool false)) w := fun o lb xb =>
    run_overlaps HX.out.blk HS.out.blk hne (by rw [List.size_toArray, HS.out.len]; omega) 0 o m xc lb xb
  clear hs hx
  go_enter Try.func40, Try.ntmps40
  go_wp2_with (simp only [hov])
  have hfit1 : (i + m) * 3 + (cs.drop (i * 3)).length ≤ L.length := by rw [hdl2, HS.out.len]; omega
  have hcp1 : Hid (∀ ty dc sc, (Builtin.copy_ #[52, 52] ty #[.slice (some ⟨g, (i + m) * 3, none⟩) (n + m - (i + m)) dc, .slice (some ⟨g, i * 3, none⟩) (n + m - i) sc]).run Try.prog w.drew = .ok (goInt (n - i : Nat)) (w.drew.setRow g (splice L ((i + m) * 3) (cs.drop (i * 3))).toArray)) := fun ty dc sc =>
    run_copy_pie (HS.out.drewN 1).blk (by simp only [Nat.min_def]; split <;> omega) _ hdl2 ((HS.out.drewN 1).get (i * 3)) hfit1 (fun u hu => h1c u (List.mem_of_mem_drop hu))
  have HB1 : Hid (Blk (w.drew.setRow g (splice L ((i + m) * 3) (cs.drop (i * 3))).toArray) g 73 (splice L ((i + m) * 3) (cs.drop (i * 3))).toArray) := (HS.out.drewN 1).blk.setRow _
  have HX1 : Hid (Held (w.drew.setRow g (splice L ((i + m) * 3) (cs.drop (i * 3))).toArray) gx m xc ds Lx) := ⟨(HX.out.drewN 1).blk.rowFar hne _, HX.out.fit, HX.out.max, HX.out.len, HX.out.cells⟩
  have HG1 : Hid (w.grownBy (w.drew.setRow g (splice L ((i + m) * 3) (cs.drop (i * 3))).toArray) (some g)) := grown_of_drew 1 (grown_setRow _ _ _)
  generalize hW1 : w.drew.setRow g (splice L ((i + m) * 3) (cs.drop (i * 3))).toArray = W1 at *
  clear hW1
  have hcp2 : Hid (∀ ty dc, (Builtin.copy_ #[52, 52] ty #[.slice (some ⟨g, i * 3, none⟩) (n + m - i) dc, .slice (some ⟨gx, 0, none⟩) m xc]).run Try.prog W1 = .ok (goInt m) (W1.setRow g (splice (splice L ((i + m) * 3) (cs.drop (i * 3))) (i * 3) ds).toArray)) := fun ty dc =>
    run_copy_pie HB1.out (by simp only [Nat.min_def]; split <;> omega) ds hdl (by have := HX1.out.get 0; simpa using this) (by rw [length_splice _ _ _ hfit1, hdl, HS.out.len]; omega) h1d
  go_region_law (refine step_copy_eq rfl (.tmp 73) (.tmp 76) 52 52 rfl (.slice (some ⟨g, (i + m) * 3, none⟩) (n + m - (i + m)) (c - (i + m))) (.slice (some ⟨g, i * 3, none⟩) (n + m - i) (c - i)) (by simp [Act.eval, Act.put]) (by simp [Act.eval, Act.put]) (hcp1.out _ _ _) ?_)
  go_wp2_with (with_reducible refine wpList_copy_eq rfl (.tmp 80) (.tmp 81) 52 52 rfl _ _ rfl rfl (hcp2.out _ _) ?_)
  go_ret
  have F := shift_take L ds (cs.drop (i * 3)) (i * 3) (by rw [hdl, hdl2, HS.out.len]; omega)
  rw [hdl, ← Nat.add_mul, hdl2] at F
  refine ⟨rfl, ⟨_, HB1.out.setRow _, by omega, HS.out.max, by rw [F.2, HS.out.len], ?_⟩, grown_trans HG1.out (grown_setRow _ _ _)⟩
  have e : (n + m) * 3 = (i + m) * 3 + (n - i) * 3 := by omega
  rw [e, F.1, ← HS.out.cells, List.take_take, Nat.min_eq_left (by omega)]
end Go.Proofs.Ytacpfkkbjibmgaa

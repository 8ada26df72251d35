/-
  slices.Replace at pieces, walked: nothing is taken, or all from a place on: layer 5.
-/
import Derived.Test.YtacpfkkbjibmgaaPieIns3
namespace Go.Proofs.Ytacpfkkbjibmgaa
open Go.RowKit

set_option maxRecDepth 100000 in
set_option maxHeartbeats 2000000 in
theorem pieReplace_same (b1 b2 n m i : Nat) (v x : Value) (cs ds : List Value) (w : World) (hs : w.ownsRow b1 73 3 v n cs) (hx : w.ownsRow b2 73 3 x m ds) (hne : ∀ g, v.ownBlock = some g → x.ownBlock ≠ some g) (hb1 : b1 ≤ w.heap.size) (hi : i ≤ n) (hn : n ≤ 100000) (hm2 : m ≤ 100000)
    (h1c : ∀ u ∈ cs, u.oneCell' = true) (h1d : ∀ u ∈ ds, u.oneCell' = true) :
    Calls Try.prog 33 #[v, .int .i64 (i : Nat), .int .i64 (i : Nat), x] w fun e w' =>
      ∃ v', e = .returned v' ∧ w'.ownsRow b1 73 3 v' (n + m) (cs.take (i * 3) ++ ds ++ cs.drop (i * 3)) ∧ w.grownBy w' v.ownBlock ∧ NewOr w v v' := by
  have H := Lib.hid (pieInsert_any b1 b2 n m i v x cs ds w hs hx hne hb1 hi hn hm2 h1c h1d)
  have hcap := own_form hs
  obtain ⟨A, c, hv⟩ := hcap
  have hc : n ≤ c := by rw [hv] at hs; exact own_cap hs
  clear hs hx hne
  have hi1 : (i : Int) ≤ (i : Int) := Int.le_refl _
  have hi2 : (i : Int) ≤ (c : Int) := by omega
  obtain ⟨ob, hob⟩ : ∃ ob, v.ownBlock = ob := ⟨_, rfl⟩
  obtain ⟨NO, hNO⟩ : ∃ NO, NewOr w v = NO := ⟨_, rfl⟩
  rw [hob, hNO, hv] at H
  rw [hob, hNO, hv]
  clear hob hNO hv
  go_enter Try.func33, Try.ntmps33
  go_wp2_with (go_at_call 40; refine H.out.mono ?_; rintro e w1 ⟨v1, rfl, h1, h2, h3⟩)
  all_goals
    go_ret
    exact ⟨v1, rfl, by rw [← List.append_assoc]; exact h1, h2, h3⟩

/-- what x yields to a copy -/
theorem run_copy_own {w : World} {b2 m ty g o dLen dCap : Nat} {x : Value} {ds L : List Value} (hx : w.ownsRow b2 73 3 x m ds) (hg : Blk w g 73 L.toArray) (hk : m ≤ dLen) (hfit : o + m * 3 ≤ L.length) (h1 : ∀ v ∈ ds, v.oneCell' = true) :
    (Builtin.copy_ #[52, 52] ty #[.slice (some ⟨g, o, none⟩) dLen dCap, x]).run Try.prog w = .ok (goInt m) (w.setRow g (splice L o ds).toArray) := by
  have hdl := hx.1
  have hc := fun k hk => hx.cells (g := k) hk
  rcases hx.2 with ⟨rfl, rfl⟩ | ⟨gx, xc, cur, rfl, hb, hgx, _⟩
  · obtain rfl : ds = [] := List.eq_nil_of_length_eq_zero (by simpa using hdl)
    rw [run_copy_zero (P := Try.prog) (w := w) 52 52 ty 73 3 Try.underlying52 pie_info _ _ _ _ _ _ (by simp)]
    have e : splice L o ([] : List Value) = L := by simp [splice]
    rw [e, setRow_self w g L.toArray _ (0, 0) hg]
    rfl
  · exact run_copy_pie hg (by simp only [Nat.min_def]; split <;> omega) ds hdl (fun j v hj => hc gx rfl j v hj) (by omega) h1

/-- clear of the row's end -/
theorem run_clear_pie {w : World} {ty g o k c : Nat} {L : List Value} (hg : Blk w g 73 L.toArray) (hfit : o + k * 3 ≤ L.length) :
    ∃ X : List Value, X.length = k * 3 ∧ (Builtin.clear_ #[52] ty #[.slice (some ⟨g, o, none⟩) k c]).run Try.prog w = .ok (.tuple #[]) (w.setRow g (splice L o X).toArray) := by
  obtain ⟨i0, hi0, hz, h1, h2⟩ := info_parts elt_pie.hi
  obtain ⟨X, hX, _, hr⟩ := run_clear_blk (P := Try.prog) (w := w) 52 73 ty (.agg #[.int .i64 0, .int .i64 0, .int .u64 0]) 3 Try.underlying52 (fun w => by simp [zeroValue, typeInfo, hi0, hz]) rfl (by simp [Value.cells, Value.oneCell']) (by omega) g o k c 73 L hg hfit
  exact ⟨X, hX, hr⟩
theorem run_clear_none {w : World} {ty c : Nat} (A : Option Addr) : (Builtin.clear_ #[52] ty #[.slice A 0 c]).run Try.prog w = .ok (.tuple #[]) w := by
  cases A <;> simp [Builtin.clear_, run_underlying Try.underlying52]

set_option maxRecDepth 100000 in
set_option maxHeartbeats 2000000 in
/-- all from i on: more than there was, or as many -/
theorem pieReplace_endMore (b1 b2 n m i c : Nat) (g : Nat) (x : Value) (cs ds : List Value) (w : World) (hs : w.ownsRow b1 73 3 (.slice (some ⟨g, 0, none⟩) n c) n cs) (hx : w.ownsRow b2 73 3 x m ds) (hb1 : b1 ≤ w.heap.size) (hi : i < n) (hmore : n ≤ i + m) (hn : n ≤ 100000) (hm2 : m ≤ 100000)
    (h1d : ∀ u ∈ ds, u.oneCell' = true) :
    Calls Try.prog 33 #[.slice (some ⟨g, 0, none⟩) n c, .int .i64 (i : Nat), .int .i64 (n : Nat), x] w fun e w' =>
      ∃ v', e = .returned v' ∧ w'.ownsRow b1 73 3 v' (i + m) (cs.take (i * 3) ++ ds) ∧ w.grownBy w' (some g) ∧ NewOr w (.slice (some ⟨g, 0, none⟩) n c) v' := by
  have hcap := own_cap hs
  obtain ⟨v1, w1, hr, h1, h2, h3⟩ := run_append_pie b1 52 52 _ i _ (own_short hs (Nat.le_of_lt hi)) x m ds (Src.ofOwn Try.underlying52 hx h1d) (by omega) hb1
  have HR := Lib.hid hr
  clear hr hs hx
  obtain ⟨A1, c1, rfl⟩ := own_form h1
  have hz1 : ((i : Int) == (n : Int)) = false := by simp; omega
  have hz2 : (i : Int) ≤ (n : Int) := by omega
  have hz3 : (n : Int) ≤ (c : Int) := by omega
  have hz4 : (i : Int) ≤ (c : Int) := by omega
  have hz5 : ¬ ((i : Int) + (m : Int) < (n : Int)) := by omega
  have hz6 : ¬ i + m < n := by omega
  have hci : ¬ c = i := by omega
  go_enter Try.func33, Try.ntmps33
  go_wp2_with (at_builtin; refine wpList_append_eq rfl _ _ _ _ rfl _ _ rfl rfl HR.out ?_)
  go_ret
  exact ⟨_, rfl, h1, h2, h3⟩

set_option maxRecDepth 100000 in
set_option maxHeartbeats 2000000 in
/-- all from i on: fewer than there were -/
theorem pieReplace_endLess (b2 n m i c : Nat) (g : Nat) (x : Value) (cs ds L : List Value) (w : World) (hs : Held w g n c cs L) (hx : w.ownsRow b2 73 3 x m ds) (hless : i + m < n)
    (h1d : ∀ u ∈ ds, u.oneCell' = true) :
    Calls Try.prog 33 #[.slice (some ⟨g, 0, none⟩) n c, .int .i64 (i : Nat), .int .i64 (n : Nat), x] w fun e w' =>
      e = .returned (.slice (some ⟨g, 0, none⟩) (i + m) c) ∧ (∃ L', Held w' g (i + m) c (cs.take (i * 3) ++ ds) L') ∧ w.grownBy w' (some g) := by
  have hcap := hs.fit
  have hmx := hs.max
  have hlen := hs.len
  unfold maxLen at hmx
  have hdl := hx.1
  obtain ⟨i0, hi0, hz, hi1, hi2⟩ := info_parts elt_pie.hi
  have hsrc : Src Try.prog i0.size 52 x m ds w := by rw [hi1]; exact Src.ofOwn Try.underlying52 hx h1d
  have hr := fun ty => run_append_room_row (P := Try.prog) 52 52 ty 73 i0 Try.underlying52 hi0 g i c L 73 hs.blk x m ds hsrc (by omega) (by rw [hi1, hdl, hlen]; omega)
  rw [hi1] at hr
  have hB1 : Blk (w.setRow g (splice L (i * 3) ds).toArray) g 73 (splice L (i * 3) ds).toArray := hs.blk.setRow _
  have hl1 : (splice L (i * 3) ds).length = L.length := length_splice _ _ _ (by rw [hdl, hlen]; omega)
  obtain ⟨X, hX, hcr⟩ := run_clear_pie (ty := 0) (o := (i + m) * 3) (k := n - (i + m)) (c := c - (i + m)) hB1 (by rw [hl1, hlen]; omega)
  have HR := Lib.hid hr
  have HC := Lib.hid hcr
  have hfin : (splice (splice L (i * 3) ds) ((i + m) * 3) X).take ((i + m) * 3) = cs.take (i * 3) ++ ds := by
    rw [splice_take_low _ _ _ _ (Nat.le_refl _) (by rw [hl1, hlen]; omega), Nat.add_mul, ← hdl, take_splice_all _ _ _ (by rw [hdl, hlen]; omega), ← hs.cells, List.take_take, Nat.min_eq_left (by omega)]
  have HH : Hid (Held ((w.setRow g (splice L (i * 3) ds).toArray).setRow g (splice (splice L (i * 3) ds) ((i + m) * 3) X).toArray) g (i + m) c (cs.take (i * 3) ++ ds) (splice (splice L (i * 3) ds) ((i + m) * 3) X)) :=
    ⟨hB1.setRow _, by omega, hs.max, by rw [length_splice _ _ _ (by rw [hX, hl1, hlen]; omega), hl1, hlen], hfin⟩
  have HG : Hid (w.grownBy ((w.setRow g (splice L (i * 3) ds).toArray).setRow g (splice (splice L (i * 3) ds) ((i + m) * 3) X).toArray) (some g)) := grown_trans (grown_setRow _ _ _) (grown_setRow _ _ _)
  clear hr hcr hs hx hsrc hB1 hfin hdl hl1 hX
  have hz1 : ((i : Int) == (n : Int)) = false := by simp; omega
  have hz2 : (i : Int) ≤ (n : Int) := by omega
  have hz3 : (n : Int) ≤ (c : Int) := by omega
  have hz4 : (i : Int) ≤ (c : Int) := by omega
  have hz5 : (i : Int) + (m : Int) < (n : Int) := by omega
  have hci : ¬ c = i := by omega
  have hcim : ¬ c = i + m := by omega
  have hz6 : (i : Int) + (m : Int) ≤ (n : Int) := by omega
  have hz7 : (0 : Int) ≤ (i : Int) + (m : Int) := by omega
  have htn : ((i : Int) + (m : Int)).toNat = i + m := by omega
  go_enter Try.func33, Try.ntmps33
  go_wp2_with (first
    | (at_builtin; refine wpList_append_eq rfl _ _ _ _ rfl _ _ rfl rfl (HR.out _) ?_)
    | ((with_reducible refine at_clear (.tmp 43) 52 ?_); refine wpList_clear_eq rfl (.tmp 43) 52 rfl _ rfl HC.out ?_))
  go_ret
  exact ⟨rfl, ⟨_, HH.out⟩, HG.out⟩
end Go.Proofs.Ytacpfkkbjibmgaa

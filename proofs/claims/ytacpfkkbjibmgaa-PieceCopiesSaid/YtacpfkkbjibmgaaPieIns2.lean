/-
  slices.Insert at pieces, walked: at the end, and where there is no room: layer 5.
-/
import Derived.Test.YtacpfkkbjibmgaaPieIns
namespace Go.Proofs.Ytacpfkkbjibmgaa
open Go.RowKit

/-- append to a row of pieces -/
theorem run_append_pie {w : World} (base : Nat) (tx ty : TypeId) (v : Value) (n : Nat) (xs : List Value) (hown : w.ownsRow base 73 3 v n xs) (x : Value) (m : Nat) (news : List Value) (hs : Src Try.prog 3 tx x m news w) (h63 : n + m ≤ 1000000) (hbase : base ≤ w.heap.size) :
    ∃ v' w', (Builtin.append_ #[52, tx] ty #[v, x]).run Try.prog w = .ok v' w' ∧ w'.ownsRow base 73 3 v' (n + m) (xs ++ news) ∧ w.grownBy w' v.ownBlock ∧ NewOr w v v' := by
  obtain ⟨i, hi, hz, h1, h2⟩ := info_parts elt_pie.hi
  exact run_append_any base 52 tx ty 73 i (.agg #[.int .i64 0, .int .i64 0, .int .u64 0]) 3 24 elt_pie.ht hi hz h1 h2 rfl v n xs hown x m news hs (by unfold maxLen; omega) (by omega) hbase

set_option maxHeartbeats 1000000 in
theorem pieInsert_end (b1 b2 n c m xc : Nat) (A B : Option Addr) (v : Value) (hv : v = .slice A n c) (cs ds : List Value) (w : World) (hs : w.ownsRow b1 73 3 v n cs) (hx : w.ownsRow b2 73 3 (.slice B m xc) m ds) (hb1 : b1 ≤ w.heap.size) (hm : 0 < m) (hn : n ≤ 100000) (hm2 : m ≤ 100000) (h1d : ∀ u ∈ ds, u.oneCell' = true) :
    Calls Try.prog 40 #[.slice A n c, .int .i64 (n : Nat), .slice B m xc] w fun e w' =>
      ∃ v', e = .returned v' ∧ w'.ownsRow b1 73 3 v' (n + m) (cs ++ ds) ∧ w.grownBy w' v.ownBlock ∧ NewOr w v v' := by
  obtain ⟨v', w', hr, h1, h2, h3⟩ := run_append_pie b1 52 52 _ n cs hs _ m ds (Src.ofOwn Try.underlying52 hx h1d) (by omega) hb1
  rw [hv] at hr
  have HR := Lib.hid hr
  clear hr hv
  have hz1 : ¬ ((m : Int) = 0) := by omega
  have hh : (n : Int) ≤ (n : Int) := Int.le_refl _
  clear hs hx
  go_enter Try.func40, Try.ntmps40
  go_wp2_with (at_builtin; refine wpList_append_eq rfl _ _ _ _ rfl _ _ rfl rfl HR.out ?_)
  all_goals
    go_ret
    exact ⟨v', rfl, h1, h2, h3⟩

/-- append of a make: a new row -/
theorem run_append_make {w : World} {g n c i : Nat} {cs L : List Value} (hs : Held w g n c cs L) (hcl : cs.length = n * 3) (hi : i ≤ n) (k : Nat) (hk : 0 < k) (hroom : c < i + k) (hmax : i + k ≤ 1000000) (ty : TypeId) :
    ∃ G LR w1, (Builtin.append_ #[52, 3] ty #[.slice (some ⟨g, 0, none⟩) i c, .int .i64 (k : Nat)]).run Try.prog w = .ok (.slice (some ⟨w.heap.size, 0, none⟩) (i + k) G) w1 ∧
      Held w1 w.heap.size (i + k) G (LR.take ((i + k) * 3)) LR ∧ LR.take (i * 3) = cs.take (i * 3) ∧ w.grownBy w1 none := by
  obtain ⟨i0, hi0, hz, h1, h2⟩ := info_parts elt_pie.hi
  have hold : (Builtin.firstCells i0.size i (.slice (some ⟨g, 0, none⟩) i c)).run Try.prog w.drew = .ok (cs.take (i * 3)).toArray w.drew := by
    rw [h1]
    refine run_firstCells_some w.drew 3 i ⟨g, 0, none⟩ i c _ (by rw [List.length_take, hcl]; omega) (fun j v hj => ?_)
    rw [List.getElem?_take] at hj
    split at hj
    · have := hs.get 0 j v (by simpa using hj)
      simpa using this
    · cases hj
  have hfit : Builtin.nextslicecap (i + k) c * i0.bytes ≤ 281474976710656 := by rw [h2]; exact growslice_fits hroom (by omega)
  have hrun := Lib.run_append_grow_zeros (P := Try.prog) w 52 3 ty 73 i0 _ .i64 .i64 Try.underlying52 Try.underlying3 hi0 hz (some ⟨g, 0, none⟩) i c (cs.take (i * 3)) hold k hk (by omega) hroom (by omega) (by rw [h2]; omega) hfit
  have hge := grownCap_ge w (i + k) c 73
  have hcm := grownCap_le_maxLen w (i + k) c 73 (by unfold maxLen; omega)
  have htl : (cs.take (i * 3)).length = i * 3 := by rw [List.length_take, hcl]; omega
  generalize hG : grownCap w (i + k) c 73 = G at *
  have hsz : ((cs.take (i * 3)).toArray ++ Builtin.zeroCells (Value.agg #[.int .i64 0, .int .i64 0, .int .u64 0]).cells k ++ Builtin.zeroCells (Value.agg #[.int .i64 0, .int .i64 0, .int .u64 0]).cells (G - (i + k))).size = G * 3 := by
    rw [Array.size_append, Array.size_append, List.size_toArray, htl, size_zeroCells, size_zeroCells]
    show i * 3 + k * 3 + (G - (i + k)) * 3 = G * 3
    omega
  refine ⟨G, (cs.take (i * 3)).toArray.toList ++ (Builtin.zeroCells (Value.agg #[.int .i64 0, .int .i64 0, .int .u64 0]).cells k).toList ++ (Builtin.zeroCells (Value.agg #[.int .i64 0, .int .i64 0, .int .u64 0]).cells (G - (i + k))).toList, _, hrun, ⟨?_, hge, hcm, ?_, rfl⟩, ?_, ⟨rfl, rfl, rfl, by simp, fun k hk _ => Below.heap_alloc w.drew _ k hk⟩⟩
  · have := Blk.new w.drew 73 ((cs.take (i * 3)).toArray ++ Builtin.zeroCells (Value.agg #[.int .i64 0, .int .i64 0, .int .u64 0]).cells k ++ Builtin.zeroCells (Value.agg #[.int .i64 0, .int .i64 0, .int .u64 0]).cells (G - (i + k)))
    rw [← Array.toList_append, ← Array.toList_append, Array.toArray_toList]
    exact this
  · rw [← Array.toList_append, ← Array.toList_append, Array.length_toList]
    exact hsz
  · simp only [List.append_assoc]
    rw [List.take_left' htl]
end Go.Proofs.Ytacpfkkbjibmgaa

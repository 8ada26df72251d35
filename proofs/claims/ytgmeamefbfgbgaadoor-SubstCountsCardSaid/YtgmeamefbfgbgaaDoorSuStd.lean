/-
  strings.Split at a line end, strings.Index, strings.Contains of a line end: the shelf's contracts laid over this program: layer 15.
-/
import Derived.Test.YtgmeamefbfgbgaaDoorM06l
import Derived.Test.YtgmeamefbfgbgaaDoorM04
import Derived.Shelf.Strings.SplitCore
import Derived.Shelf.Strings.Search3
import Derived.Lib.SplitLaws
import Derived.Lib.IndexBytes
namespace Go.Proofs.YtgmeamefbfgbgaaDoor
open Go.RowKit
set_option maxRecDepth 100000

def genSplit_ren : Go.Shelf.Ren := ⟨fun | 221 => 81 | 268 => 91 | 138 => 50 | 143 => 60 | 195 => 76 | 197 => 98 | 218 => 77 | 219 => 82 | 260 => 101 | 217 => 92 | 225 => 93 | 224 => 94 | 267 => 95 | 266 => 99 | 314 => 100 | n => n, fun | 9 => 9 | 3 => 3 | 31 => 99 | 4 => 4 | 0 => 0 | 105 => 137 | 21 => 21 | 5 => 5 | 46 => 134 | 119 => 142 | 139 => 145 | 138 => 144 | 146 => 140 | 51 => 139 | n => n, fun | 1 => 0 | 3 => 1 | 4 => 2 | n => n⟩
theorem genSplit : Go.Proofs.Lays.n221 Tryd.prog genSplit_ren := {
  mixed := by kernel_rfl
  f138 := Tryd.func50.trans (congrArg some (by kernel_rfl))
  f143 := Tryd.func60.trans (congrArg some (by kernel_rfl))
  f195 := Tryd.func76.trans (congrArg some (by kernel_rfl))
  f197 := Tryd.func98.trans (congrArg some (by kernel_rfl))
  f217 := Tryd.func92.trans (congrArg some (by kernel_rfl))
  f218 := Tryd.func77.trans (congrArg some (by kernel_rfl))
  f219 := Tryd.func82.trans (congrArg some (by kernel_rfl))
  f221 := Tryd.func81.trans (congrArg some (by kernel_rfl))
  f224 := Tryd.func94.trans (congrArg some (by kernel_rfl))
  f225 := Tryd.func93.trans (congrArg some (by kernel_rfl))
  f260 := Tryd.func101.trans (congrArg some (by kernel_rfl))
  f266 := Tryd.func99.trans (congrArg some (by kernel_rfl))
  f267 := Tryd.func95.trans (congrArg some (by kernel_rfl))
  f268 := Tryd.func91.trans (congrArg some (by kernel_rfl))
  f314 := Tryd.func100.trans (congrArg some (by kernel_rfl))
  t0 := Tryd.underlying0
  a0 := Tryd.isAgg0
  z0 := Tryd.sizeOf0
  v0 := Tryd.zeroValue0
  t3 := Tryd.underlying3
  a3 := Tryd.isAgg3
  z3 := Tryd.sizeOf3
  v3 := Tryd.zeroValue3
  t4 := Tryd.underlying4
  a4 := Tryd.isAgg4
  z4 := Tryd.sizeOf4
  v4 := Tryd.zeroValue4
  t5 := Tryd.underlying5
  a5 := Tryd.isAgg5
  z5 := Tryd.sizeOf5
  v5 := Tryd.zeroValue5
  t9 := Tryd.underlying9
  a9 := Tryd.isAgg9
  z9 := Tryd.sizeOf9
  v9 := Tryd.zeroValue9
  t21 := Tryd.underlying21
  a21 := Tryd.isAgg21
  z21 := Tryd.sizeOf21
  v21 := Tryd.zeroValue21
  t31 := Tryd.underlying99
  a31 := Tryd.isAgg99
  z31 := Tryd.sizeOf99
  v31 := Tryd.zeroValue99
  t46 := Tryd.underlying134
  a46 := Tryd.isAgg134
  z46 := Tryd.sizeOf134
  v46 := Tryd.zeroValue134
  t51 := Tryd.underlying139
  a51 := Tryd.isAgg139
  z51 := Tryd.sizeOf139
  v51 := Tryd.zeroValue139
  t105 := Tryd.underlying137
  a105 := Tryd.isAgg137
  z105 := Tryd.sizeOf137
  v105 := Tryd.zeroValue137
  t119 := Tryd.underlying142
  a119 := Tryd.isAgg142
  z119 := Tryd.sizeOf142
  t138 := Tryd.underlying144
  a138 := Tryd.isAgg144
  z138 := Tryd.sizeOf144
  v138 := Tryd.zeroValue144
  t139 := Tryd.underlying145
  a139 := Tryd.isAgg145
  z139 := Tryd.sizeOf145
  v139 := Tryd.zeroValue145
  t146 := Tryd.underlying140
  a146 := Tryd.isAgg140
  z146 := Tryd.sizeOf140
  v146 := Tryd.zeroValue140
  g1 := by kernel_rfl
  g3 := by kernel_rfl
  g4 := by kernel_rfl }
theorem lines_one {l : List UInt8} (h : (10 : UInt8) ∉ l) : linesOf l = [l] := by
  induction l with
  | nil => rfl
  | cons b t ih =>
    have h1 : ¬ b = 10 := fun e => h (by rw [e]; exact List.mem_cons_self ..)
    have h2 := ih (fun e => h (List.mem_cons_of_mem _ e))
    unfold linesOf
    rw [if_neg h1, h2]
    rfl
theorem split_lines : ∀ (k : Nat) (S : List UInt8), S.count 10 = k → Lib.splitB ⟨#[10]⟩ 0 k ⟨S.toArray⟩ = (linesOf S).map fun x => (⟨x.toArray⟩ : ByteArray)
  | 0, S, h => by
    rw [Lib.splitB_zero, lines_one (List.count_eq_zero.1 h)]
    rfl
  | k + 1, S, h => by
    have hge := Lib.indexByte_ge S 10
    by_cases hi : Lib.indexByte S 10 = -1
    · have h0 : S.count 10 = 0 := by
        rw [List.count_eq_zero]
        intro hm
        obtain ⟨j, hj⟩ := List.mem_iff_getElem?.1 hm
        exact Lib.indexByte_none hi j hj
      omega
    · obtain ⟨i, hi⟩ : ∃ i : Nat, Lib.indexByte S 10 = i := ⟨(Lib.indexByte S 10).toNat, by omega⟩
      obtain ⟨g1, g2⟩ := Lib.indexByte_some hi
      have hlt : i < S.length := by
        rcases Nat.lt_or_ge i S.length with h' | h'
        · exact h'
        · rw [List.getElem?_eq_none h'] at g1; cases g1
      have hS : S = S.take i ++ 10 :: S.drop (i + 1) := by
        conv => lhs; rw [← List.take_append_drop i S, List.drop_eq_getElem_cons hlt]
        rw [List.getElem?_eq_getElem hlt] at g1
        rw [Option.some.inj g1]
      have hno : (10 : UInt8) ∉ S.take i := by
        intro hm
        obtain ⟨j, hj⟩ := List.mem_iff_getElem?.1 hm
        have hji : j < i := by
          rcases Nat.lt_or_ge j i with h' | h'
          · exact h'
          · rw [List.getElem?_eq_none (by rw [List.length_take]; omega)] at hj; cases hj
        rw [List.getElem?_take, if_pos hji] at hj
        exact g2 j hji hj
      have hc : (S.drop (i + 1)).count 10 = k := by
        have e := congrArg (List.count 10) hS
        rw [List.count_append, List.count_cons_self, List.count_eq_zero.2 hno] at e
        omega
      have hix : Lib.indexB ⟨S.toArray⟩ ⟨#[10]⟩ = (i : Int) := (Lib.index_one S 10).trans hi
      rw [Lib.splitB_hit _ _ _ _ i hix]
      have e1 : (⟨S.toArray⟩ : ByteArray).extract 0 (i + 0) = ⟨(S.take i).toArray⟩ := by rw [text_cut]; simp
      have e2 : (⟨S.toArray⟩ : ByteArray).extract (i + (⟨#[10]⟩ : ByteArray).size) (⟨S.toArray⟩ : ByteArray).size = ⟨(S.drop (i + 1)).toArray⟩ := by
        show (⟨S.toArray⟩ : ByteArray).extract (i + 1) S.length = _
        rw [text_cut, List.take_of_length_le (by rw [List.length_drop]; omega)]
      rw [e1, e2, split_lines k _ hc]
      conv => rhs; rw [hS, linesOf_app, lines_one hno]
      rfl
theorem stdSplit_any (S : List UInt8) (hS : S.length ≤ 1000000) (w : World) :
    Calls Tryd.prog 59 #[.string ⟨S.toArray⟩, .string ⟨#[10]⟩] w fun e w' => e = .returned (.slice (some ⟨w.heap.size, 0, none⟩) (linesOf S).length (linesOf S).length) ∧ w' = w.alloc (.cells ((linesOf S).map fun x => Value.string ⟨x.toArray⟩).toArray 9) := by
  have hcl : Lib.countB ⟨S.toArray⟩ ⟨#[10]⟩ = S.count 10 := Lib.count_one 10 S
  have hle : S.count 10 ≤ S.length := List.count_le_length
  have hG := Any.strings_genSplit_core genSplit (by kernel_rfl) ⟨S.toArray⟩ ⟨#[10]⟩ 0 (-1) (S.count 10 + 1) w (by show S.length < _; omega) (by decide) (Nat.zero_le _)
    (fun x c _ => by
      have h := stdIndex_any x.data.toList (w.alloc (.cells c 9))
      have hx : (⟨x.data.toList.toArray⟩ : ByteArray) = x := by cases x; simp
      rw [hx] at h
      refine h.mono ?_
      rintro e w1 ⟨rfl, rfl⟩
      exact ⟨by rw [← Lib.index_one], rfl⟩)
    (by
      refine (stdCount_any S w).mono ?_
      rintro e w1 ⟨rfl, rfl⟩
      exact ⟨by rw [hcl], rfl⟩)
    (by decide) (by decide) (by rw [if_pos (by decide), hcl]; show _ = min _ ((S.length : Int) + 1); omega)
  rw [Nat.add_sub_cancel, split_lines _ S rfl] at hG
  have hlen : (linesOf S).length = S.count 10 + 1 := linesOf_len S
  rw [← hlen, List.length_map] at hG
  have hcells : Lib.cellsOf ((linesOf S).map fun x => (⟨x.toArray⟩ : ByteArray)) (linesOf S).length = ((linesOf S).map fun x => Value.string ⟨x.toArray⟩).toArray := by
    have := Lib.cellsOf_full ((linesOf S).map fun x => (⟨x.toArray⟩ : ByteArray))
    rw [List.length_map, List.map_map] at this
    exact this
  rw [hcells] at hG
  have HG := Lib.hid hG
  clear hG hcells hlen hcl
  generalize linesOf S = L at *
  go_enter Tryd.func59, Tryd.ntmps59
  go_wp2_with (go_at_call 81; refine HG.out.mono ?_; rintro e w1 ⟨rfl, hw1⟩)
  go_ret
  subst hw1
  exact ⟨rfl, rfl⟩
/-- the library's own variable holds a number -/
def MaxW (w : World) : Prop := ∃ m : Int, w.cell? ⟨0, 0, none⟩ = some (.int .i64 m)
theorem MaxW.below {w w' : World} (h : MaxW w) (hb : Below w.heap.size w w') : MaxW w' := by
  obtain ⟨m, hm⟩ := h
  refine ⟨m, ?_⟩
  have hlt : 0 < w.heap.size := by
    rcases Nat.lt_or_ge 0 w.heap.size with h | h
    · exact h
    · unfold World.cell? at hm
      rw [Array.getElem?_eq_none h] at hm
      cases hm
  have e := hb.block _ hlt
  unfold World.cell? at hm ⊢
  rw [e]
  exact hm
theorem suIndex_any (S pat : List UInt8) (hS : S.length ≤ 1000000) (w : World) (h : MaxW w) :
    Calls Tryd.prog 60 #[.string ⟨S.toArray⟩, .string ⟨pat.toArray⟩] w fun e w' => e = .returned (.int .i64 (Lib.index S pat)) ∧ w = w' := by
  obtain ⟨m, hm⟩ := h
  refine (Any.strings_Index (ρ := genSplit_ren) { genSplit with } ⟨S.toArray⟩ ⟨pat.toArray⟩ m w (by show S.length < _; omega) hm).mono ?_
  rintro e w' ⟨rfl, rfl⟩
  exact ⟨rfl, rfl⟩
theorem suContains_any (S : List UInt8) (w : World) :
    Calls Tryd.prog 56 #[.string ⟨S.toArray⟩, .string ⟨#[10]⟩] w fun e w' => e = .returned (.bool (decide (0 ≤ Lib.indexByte S 10))) ∧ w = w' := by
  have h := stdIndex_any S w
  go_enter Tryd.func56, Tryd.ntmps56
  go_wp2_with (go_at_call 60; refine h.mono ?_; rintro e w1 ⟨rfl, rfl⟩)
  go_ret
  exact ⟨rfl, rfl⟩
end Go.Proofs.YtgmeamefbfgbgaaDoor

/-
  Merged: OxStd, OxBlk, OxChg, OxChd, OxRew, OxShi, OxDoM.
-/
import Derived.Test.YtgpmfkedcoiopaaGreatDoorM14f
import Derived.Test.YtgpmfkedcoiopaaGreatDoorM06l
import Derived.Test.YtgpmfkedcoiopaaGreatDoorKeyBld
import Derived.Shelf.Strings.SplitCore
import Derived.Shelf.Strings.Repeat
import Derived.Lib.SplitLaws
import Derived.Lib.IndexBytes
import Derived.Test.YtgpmfkedcoiopaaGreatDoorM02v
import Derived.Test.YtgpmfkedcoiopaaGreatDoorM14b
import Derived.Test.YtgpmfkedcoiopaaGreatDoorM14g
import Derived.Test.YtgpmfkedcoiopaaGreatDoorM04o
/-
  strings.Split at a line end; strings.Repeat: the shelf's contracts laid over this program: layer 14.
-/
namespace Go.Proofs.YtgpmfkedcoiopaaGreatDoor
open Go.RowKit
set_option maxRecDepth 100000

def genSplit_ren : Go.Shelf.Ren := ⟨fun | 221 => 196 | 268 => 199 | 138 => 100 | 143 => 152 | 195 => 150 | 197 => 200 | 218 => 151 | 219 => 183 | 260 => 201 | 217 => 192 | 225 => 193 | 224 => 194 | 267 => 195 | 266 => 197 | 314 => 198 | n => n, fun | 9 => 9 | 3 => 3 | 31 => 225 | 4 => 4 | 0 => 0 | 105 => 150 | 21 => 21 | 5 => 5 | 46 => 169 | 119 => 234 | 139 => 237 | 138 => 236 | 146 => 217 | 51 => 216 | n => n, fun | 1 => 0 | 3 => 1 | 4 => 2 | n => n⟩
theorem genSplit : Go.Proofs.Lays.n221 Tryz.prog genSplit_ren := {
  mixed := by kernel_rfl
  f138 := Tryz.func100.trans (congrArg some (by kernel_rfl))
  f143 := Tryz.func152.trans (congrArg some (by kernel_rfl))
  f195 := Tryz.func150.trans (congrArg some (by kernel_rfl))
  f197 := Tryz.func200.trans (congrArg some (by kernel_rfl))
  f217 := Tryz.func192.trans (congrArg some (by kernel_rfl))
  f218 := Tryz.func151.trans (congrArg some (by kernel_rfl))
  f219 := Tryz.func183.trans (congrArg some (by kernel_rfl))
  f221 := Tryz.func196.trans (congrArg some (by kernel_rfl))
  f224 := Tryz.func194.trans (congrArg some (by kernel_rfl))
  f225 := Tryz.func193.trans (congrArg some (by kernel_rfl))
  f260 := Tryz.func201.trans (congrArg some (by kernel_rfl))
  f266 := Tryz.func197.trans (congrArg some (by kernel_rfl))
  f267 := Tryz.func195.trans (congrArg some (by kernel_rfl))
  f268 := Tryz.func199.trans (congrArg some (by kernel_rfl))
  f314 := Tryz.func198.trans (congrArg some (by kernel_rfl))
  t0 := Tryz.underlying0
  a0 := Tryz.isAgg0
  z0 := Tryz.sizeOf0
  v0 := Tryz.zeroValue0
  t3 := Tryz.underlying3
  a3 := Tryz.isAgg3
  z3 := Tryz.sizeOf3
  v3 := Tryz.zeroValue3
  t4 := Tryz.underlying4
  a4 := Tryz.isAgg4
  z4 := Tryz.sizeOf4
  v4 := Tryz.zeroValue4
  t5 := Tryz.underlying5
  a5 := Tryz.isAgg5
  z5 := Tryz.sizeOf5
  v5 := Tryz.zeroValue5
  t9 := Tryz.underlying9
  a9 := Tryz.isAgg9
  z9 := Tryz.sizeOf9
  v9 := Tryz.zeroValue9
  t21 := Tryz.underlying21
  a21 := Tryz.isAgg21
  z21 := Tryz.sizeOf21
  v21 := Tryz.zeroValue21
  t31 := Tryz.underlying225
  a31 := Tryz.isAgg225
  z31 := Tryz.sizeOf225
  v31 := Tryz.zeroValue225
  t46 := Tryz.underlying169
  a46 := Tryz.isAgg169
  z46 := Tryz.sizeOf169
  v46 := Tryz.zeroValue169
  t51 := Tryz.underlying216
  a51 := Tryz.isAgg216
  z51 := Tryz.sizeOf216
  v51 := Tryz.zeroValue216
  t105 := Tryz.underlying150
  a105 := Tryz.isAgg150
  z105 := Tryz.sizeOf150
  v105 := Tryz.zeroValue150
  t119 := Tryz.underlying234
  a119 := Tryz.isAgg234
  z119 := Tryz.sizeOf234
  t138 := Tryz.underlying236
  a138 := Tryz.isAgg236
  z138 := Tryz.sizeOf236
  v138 := Tryz.zeroValue236
  t139 := Tryz.underlying237
  a139 := Tryz.isAgg237
  z139 := Tryz.sizeOf237
  v139 := Tryz.zeroValue237
  t146 := Tryz.underlying217
  a146 := Tryz.isAgg217
  z146 := Tryz.sizeOf217
  v146 := Tryz.zeroValue217
  g1 := by kernel_rfl
  g3 := by kernel_rfl
  g4 := by kernel_rfl }
def strRepeat_ren : Go.Shelf.Ren := ⟨fun | 105 => 68 | 212 => 120 | 99 => 121 | 165 => 122 | 166 => 123 | 170 => 124 | 169 => 125 | 263 => 164 | 264 => 165 | 206 => 166 | 240 => 167 | 241 => 168 | 276 => 187 | 277 => 188 | n => n, fun | 9 => 9 | 3 => 3 | 4 => 4 | 20 => 20 | 0 => 0 | 46 => 169 | 109 => 170 | 5 => 5 | 72 => 174 | 76 => 178 | 51 => 216 | 146 => 217 | 53 => 33 | 148 => 219 | 70 => 172 | 37 => 131 | 75 => 177 | 127 => 221 | 164 => 227 | 80 => 181 | n => n, fun | n => n⟩
theorem strRepeat : Go.Proofs.Lays.n105 Tryz.prog strRepeat_ren := {
  mixed := by kernel_rfl
  f99 := Tryz.func121.trans (congrArg some (by kernel_rfl))
  f105 := Tryz.func68.trans (congrArg some (by kernel_rfl))
  f165 := Tryz.func122.trans (congrArg some (by kernel_rfl))
  f166 := Tryz.func123.trans (congrArg some (by kernel_rfl))
  f169 := Tryz.func125.trans (congrArg some (by kernel_rfl))
  f170 := Tryz.func124.trans (congrArg some (by kernel_rfl))
  f206 := Tryz.func166.trans (congrArg some (by kernel_rfl))
  f212 := Tryz.func120.trans (congrArg some (by kernel_rfl))
  f240 := Tryz.func167.trans (congrArg some (by kernel_rfl))
  f241 := Tryz.func168.trans (congrArg some (by kernel_rfl))
  f263 := Tryz.func164.trans (congrArg some (by kernel_rfl))
  f264 := Tryz.func165.trans (congrArg some (by kernel_rfl))
  f276 := Tryz.func187.trans (congrArg some (by kernel_rfl))
  f277 := Tryz.func188.trans (congrArg some (by kernel_rfl))
  t0 := Tryz.underlying0
  a0 := Tryz.isAgg0
  z0 := Tryz.sizeOf0
  v0 := Tryz.zeroValue0
  t3 := Tryz.underlying3
  a3 := Tryz.isAgg3
  z3 := Tryz.sizeOf3
  v3 := Tryz.zeroValue3
  t4 := Tryz.underlying4
  a4 := Tryz.isAgg4
  z4 := Tryz.sizeOf4
  v4 := Tryz.zeroValue4
  t5 := Tryz.underlying5
  a5 := Tryz.isAgg5
  z5 := Tryz.sizeOf5
  v5 := Tryz.zeroValue5
  t9 := Tryz.underlying9
  a9 := Tryz.isAgg9
  z9 := Tryz.sizeOf9
  v9 := Tryz.zeroValue9
  t20 := Tryz.underlying20
  a20 := Tryz.isAgg20
  z20 := Tryz.sizeOf20
  v20 := Tryz.zeroValue20
  t37 := Tryz.underlying131
  a37 := Tryz.isAgg131
  z37 := Tryz.sizeOf131
  v37 := Tryz.zeroValue131
  t46 := Tryz.underlying169
  a46 := Tryz.isAgg169
  z46 := Tryz.sizeOf169
  v46 := Tryz.zeroValue169
  t51 := Tryz.underlying216
  a51 := Tryz.isAgg216
  z51 := Tryz.sizeOf216
  v51 := Tryz.zeroValue216
  t53 := Tryz.underlying33
  a53 := Tryz.isAgg33
  z53 := Tryz.sizeOf33
  v53 := Tryz.zeroValue33
  t70 := Tryz.underlying172
  a70 := Tryz.isAgg172
  z70 := Tryz.sizeOf172
  v70 := Tryz.zeroValue172
  t72 := Tryz.underlying174
  a72 := Tryz.isAgg174
  z72 := Tryz.sizeOf174
  v72 := Tryz.zeroValue174
  t75 := Tryz.underlying177
  a75 := Tryz.isAgg177
  z75 := Tryz.sizeOf177
  v75 := Tryz.zeroValue177
  t76 := Tryz.underlying178
  a76 := Tryz.isAgg178
  z76 := Tryz.sizeOf178
  v76 := Tryz.zeroValue178
  t109 := Tryz.underlying170
  a109 := Tryz.isAgg170
  z109 := Tryz.sizeOf170
  v109 := Tryz.zeroValue170
  t127 := Tryz.underlying221
  a127 := Tryz.isAgg221
  z127 := Tryz.sizeOf221
  v127 := Tryz.zeroValue221
  t146 := Tryz.underlying217
  a146 := Tryz.isAgg217
  z146 := Tryz.sizeOf217
  v146 := Tryz.zeroValue217
  t148 := Tryz.underlying219
  a148 := Tryz.isAgg219
  z148 := Tryz.sizeOf219
  v148 := Tryz.zeroValue219
  t164 := Tryz.underlying227
  a164 := Tryz.isAgg227
  z164 := Tryz.sizeOf227
  v164 := Tryz.zeroValue227 }
theorem rep_extra : Builder.Extra Tryz.prog strRepeat_ren where
  sizeBuilder := by kernel_rfl
  liesBuilder := by kernel_rfl
  t5 := Tryz.underlying5
  a5 := Tryz.isAgg5
  z5 := Tryz.sizeOf5
  v5 := Tryz.zeroValue5
  infoByte := by kernel_rfl
  cellsByte := by kernel_rfl
  sizeByte := by kernel_rfl
  neB5 := by decide
theorem stdRepeat_any (S : List UInt8) (n : Nat) (hS : S.length ≤ 4) (hn : n ≤ 1000) (w : World) :
    Calls Tryz.prog 68 #[.string ⟨S.toArray⟩, .int .i64 (n : Nat)] w fun e w' => e = .returned (.string ⟨((List.replicate n S).flatten).toArray⟩) ∧ Below w.heap.size w w' := by
  have h := Any.strings_Repeat strRepeat rep_extra ⟨S.toArray⟩ n w (by omega) (by
    show S.length * n ≤ _
    have := Nat.mul_le_mul hS hn
    omega)
  have e : ∀ k, Lib.repeatL S k = (List.replicate k S).flatten := fun k => by
    induction k with
    | zero => rfl
    | succ k ih => rw [List.replicate_succ, List.flatten_cons, ← ih]; rfl
  rw [← e]
  exact h
theorem lines_one {l : List UInt8} (h : (10 : UInt8) ∉ l) : linesOf l = [l] := by
  induction l with
  | nil => rfl
  | cons b t ih =>
    have h1 : ¬ b = 10 := fun e => h (by rw [e]; exact List.mem_cons_self ..)
    have h2 := ih (fun e => h (List.mem_cons_of_mem _ e))
    unfold linesOf
    rw [if_neg h1, h2]
    rfl
theorem split_lines : ∀ (k : Nat) (S : List UInt8), S.count 10 = k → Lib.splitB ⟨#[10]⟩ 0 k ⟨S.toArray⟩ = (linesOf S).map fun x => (⟨x.toArray⟩ : ByteArray)
  | 0, S, h => by
    rw [Lib.splitB_zero, lines_one (List.count_eq_zero.1 h)]
    rfl
  | k + 1, S, h => by
    have hge := Lib.indexByte_ge S 10
    by_cases hi : Lib.indexByte S 10 = -1
    · have h0 : S.count 10 = 0 := by
        rw [List.count_eq_zero]
        intro hm
        obtain ⟨j, hj⟩ := List.mem_iff_getElem?.1 hm
        exact Lib.indexByte_none hi j hj
      omega
    · obtain ⟨i, hi⟩ : ∃ i : Nat, Lib.indexByte S 10 = i := ⟨(Lib.indexByte S 10).toNat, by omega⟩
      obtain ⟨g1, g2⟩ := Lib.indexByte_some hi
      have hlt : i < S.length := by
        rcases Nat.lt_or_ge i S.length with h' | h'
        · exact h'
        · rw [List.getElem?_eq_none h'] at g1; cases g1
      have hS : S = S.take i ++ 10 :: S.drop (i + 1) := by
        conv => lhs; rw [← List.take_append_drop i S, List.drop_eq_getElem_cons hlt]
        rw [List.getElem?_eq_getElem hlt] at g1
        rw [Option.some.inj g1]
      have hno : (10 : UInt8) ∉ S.take i := by
        intro hm
        obtain ⟨j, hj⟩ := List.mem_iff_getElem?.1 hm
        have hji : j < i := by
          rcases Nat.lt_or_ge j i with h' | h'
          · exact h'
          · rw [List.getElem?_eq_none (by rw [List.length_take]; omega)] at hj; cases hj
        rw [List.getElem?_take, if_pos hji] at hj
        exact g2 j hji hj
      have hc : (S.drop (i + 1)).count 10 = k := by
        have e := congrArg (List.count 10) hS
        rw [List.count_append, List.count_cons_self, List.count_eq_zero.2 hno] at e
        omega
      have hix : Lib.indexB ⟨S.toArray⟩ ⟨#[10]⟩ = (i : Int) := (Lib.index_one S 10).trans hi
      rw [Lib.splitB_hit _ _ _ _ i hix]
      have e1 : (⟨S.toArray⟩ : ByteArray).extract 0 (i + 0) = ⟨(S.take i).toArray⟩ := by rw [text_cut]; simp
      have e2 : (⟨S.toArray⟩ : ByteArray).extract (i + (⟨#[10]⟩ : ByteArray).size) (⟨S.toArray⟩ : ByteArray).size = ⟨(S.drop (i + 1)).toArray⟩ := by
        show (⟨S.toArray⟩ : ByteArray).extract (i + 1) S.length = _
        rw [text_cut, List.take_of_length_le (by rw [List.length_drop]; omega)]
      rw [e1, e2, split_lines k _ hc]
      conv => rhs; rw [hS, linesOf_app, lines_one hno]
      rfl
theorem stdSplit_any (S : List UInt8) (hS : S.length ≤ 1000000) (w : World) :
    Calls Tryz.prog 184 #[.string ⟨S.toArray⟩, .string ⟨#[10]⟩] w fun e w' => e = .returned (.slice (some ⟨w.heap.size, 0, none⟩) (linesOf S).length (linesOf S).length) ∧ w' = w.alloc (.cells ((linesOf S).map fun x => Value.string ⟨x.toArray⟩).toArray 9) := by
  have hcl : Lib.countB ⟨S.toArray⟩ ⟨#[10]⟩ = S.count 10 := Lib.count_one 10 S
  have hle : S.count 10 ≤ S.length := List.count_le_length
  have hG := Any.strings_genSplit_core genSplit (by kernel_rfl) ⟨S.toArray⟩ ⟨#[10]⟩ 0 (-1) (S.count 10 + 1) w (by show S.length < _; omega) (by decide) (Nat.zero_le _)
    (fun x c _ => by
      have h := stdIndex_any x.data.toList (w.alloc (.cells c 9))
      have hx : (⟨x.data.toList.toArray⟩ : ByteArray) = x := by cases x; simp
      rw [hx] at h
      refine h.mono ?_
      rintro e w1 ⟨rfl, rfl⟩
      exact ⟨by rw [← Lib.index_one], rfl⟩)
    (by
      refine (stdCount_any S w).mono ?_
      rintro e w1 ⟨rfl, rfl⟩
      exact ⟨by rw [hcl], rfl⟩)
    (by decide) (by decide) (by rw [if_pos (by decide), hcl]; show _ = min _ ((S.length : Int) + 1); omega)
  rw [Nat.add_sub_cancel, split_lines _ S rfl] at hG
  have hlen : (linesOf S).length = S.count 10 + 1 := linesOf_len S
  rw [← hlen, List.length_map] at hG
  have hcells : Lib.cellsOf ((linesOf S).map fun x => (⟨x.toArray⟩ : ByteArray)) (linesOf S).length = ((linesOf S).map fun x => Value.string ⟨x.toArray⟩).toArray := by
    have := Lib.cellsOf_full ((linesOf S).map fun x => (⟨x.toArray⟩ : ByteArray))
    rw [List.length_map, List.map_map] at this
    exact this
  rw [hcells] at hG
  have HG := Lib.hid hG
  clear hG hcells hlen hcl
  generalize linesOf S = L at *
  go_enter Tryz.func184, Tryz.ntmps184
  go_wp2_with (go_at_call 196; refine HG.out.mono ?_; rintro e w1 ⟨rfl, hw1⟩)
  go_ret
  subst hw1
  exact ⟨rfl, rfl⟩
end Go.Proofs.YtgpmfkedcoiopaaGreatDoor

/-
  The landed blanks: how many blanks a line begins with: layer 14.
-/
namespace Go.Proofs.YtgpmfkedcoiopaaGreatDoor
open Go.RowKit
set_option maxRecDepth 100000

set_option maxHeartbeats 4000000 in
theorem oxBlanks_any (S : List UInt8) (_hS : S.length ≤ 1000000) (w : World) : Calls Tryz.prog 185 #[.string ⟨S.toArray⟩] w fun e w' => e = .returned (.int .i64 (inB S : Nat)) ∧ Below w.heap.size w w' := by
  obtain ⟨B, hB⟩ : ∃ B, inB S = B := ⟨_, rfl⟩
  rw [hB]
  have HB0 := Lib.hid hB
  clear hB
  go_enter Tryz.func185, Tryz.ntmps185
  go_wp2_with ((with_reducible refine at_range 9 _ ?_); refine wpList_rangeStr rfl 9 _ rfl Tryz.underlying9 S rfl ?_; intro w1 g hg hit hb1)
  go_frame
  go_loopw [2] (fun v wr => ∃ n : Nat, v = .int .i64 0 ∧ n ≤ S.length ∧ Hid (n + inB (S.drop n) = B) ∧ Iter wr g S n ∧ Below w.heap.size w wr) (fun _ wr => S.length - wr.iterPos g)
  case atStart => exact ⟨0, rfl, Nat.zero_le _, by show _ = _; rw [List.drop_zero, Nat.zero_add]; exact HB0.out, hit, hb1⟩
  case round =>
    clear hit hb1
    obtain ⟨n, rfl, hn, H0, hit, hb⟩ := hrel
    have hip : wr.iterPos g = n := by unfold World.iterPos; rw [hit]
    have HIP := Lib.hid hip
    clear hip
    have z := hb.size
    by_cases hlt : n < S.length
    · by_cases hbl : S[n] = 32 ∨ S[n] = 9
      · have HD : Hid (dec (S.drop n) = (S[n].toNat, 1)) := by
          show _ = _
          rw [List.drop_eq_getElem_cons hlt]
          refine dec_low (t := S[n] :: S.drop (n + 1)) ?_
          show S[n].toNat < 128
          rcases hbl with h | h <;> rw [h] <;> decide
        have hcl : classL S[n].toNat = 0 := by rcases hbl with h | h <;> rw [h] <;> decide
        have HT : Hid (n + 1 + inB (S.drop (n + 1)) = B) := by
          show _ = _
          rw [← inB_step hlt hbl]; exact H0.out
        have hr : S[n].toNat ≤ 1114111 := by have := S[n].toNat_lt; omega
        generalize S[n].toNat = r at *
        have HCL := Lib.hid hcl
        clear hbl hcl H0
        go_wp2_with (first
          | ((with_reducible refine at_next _ true ?_); refine wpList_nextStr rfl _ rfl g rfl S n hit hlt ?_; rw [HD.out]; intro w2 hit2 hg2; have b2 := hb.grown hg2 z (fun k hk => by injection hk with hk; omega))
          | (go_at_call 155; refine (glyClass_any r hr _).mono ?_; rw [HCL.out]; rintro e w3 ⟨rfl, hw3⟩; subst hw3))
        have hip2 : w2.iterPos g = n + 1 := by unfold World.iterPos; rw [hit2]
        rw [HIP.out, hip2]
        exact ⟨⟨n + 1, rfl, by omega, HT, hit2, b2⟩, by omega⟩
      · have hcl : classL (dec (S.drop n)).1 ≠ 0 := by
          rw [List.drop_eq_getElem_cons hlt]
          intro h
          exact hbl (class_blank.1 h)
        have hr := dec_rune (S.drop n)
        have hBn : B = n := by have := H0.out; have h2 := inB_stop hlt hbl; omega
        have HBN := Lib.hid hBn
        generalize hd : dec (S.drop n) = d at *
        have HD := Lib.hid hd
        obtain ⟨r, m⟩ := d
        dsimp only at hcl hr
        have hc2 : ((classL r : Nat) : Int) ≠ 0 := by omega
        have hc3 : (((classL r : Nat) : Int) != 0) = true := by rw [bne_iff_ne]; exact hc2
        have HC := Lib.hid (fun wx => glyClass_any r hr wx)
        generalize classL r = cl at *
        clear hd hbl hBn H0 hcl hc2
        go_wp2_with (first
          | ((with_reducible refine at_next _ true ?_); refine wpList_nextStr rfl _ rfl g rfl S n hit hlt ?_; rw [HD.out]; intro w2 hit2 hg2; have b2 := hb.grown hg2 z (fun k hk => by injection hk with hk; omega))
          | (go_at_call 155; refine (HC.out _).mono ?_; rintro e w3 ⟨rfl, hw3⟩; subst hw3))
        go_ret
        exact ⟨by rw [HBN.out]; rfl, b2⟩
    · have hBn : B = S.length := by
        have := H0.out
        rw [List.drop_eq_nil_of_le (by omega)] at this
        have h0 : inB [] = 0 := rfl
        omega
      have HBN := Lib.hid hBn
      clear hBn
      go_wp2_with ((with_reducible refine at_next _ true ?_); refine wpList_nextEnd rfl _ rfl g rfl S n hit hlt ?_)
      go_ret
      exact ⟨by rw [HBN.out]; rfl, hb⟩
end Go.Proofs.YtgpmfkedcoiopaaGreatDoor

/-
  The landed changes: what > and < and J change of the lines of a string: layer 14.
-/
namespace Go.Proofs.YtgpmfkedcoiopaaGreatDoor
open Go.RowKit
set_option maxRecDepth 100000

theorem elt_chg : Elt Tryz.prog 155 160 (.agg #[.int .i64 0, .int .i64 0, .string ⟨#[]⟩]) 3 32 := ⟨Tryz.underlying155, by kernel_rfl, rfl, by decide⟩
def flatC (L : List ChP) : List Value := L.flatMap fun c => [.int .i64 (c.f : Nat), .int .i64 (c.t : Nat), .string ⟨c.put.toArray⟩]
theorem flatC_snoc (L : List ChP) (c : ChP) : flatC (L ++ [c]) = flatC L ++ [.int .i64 (c.f : Nat), .int .i64 (c.t : Nat), .string ⟨c.put.toArray⟩] := by simp [flatC]
theorem drop_line {L : List (List UInt8)} {k : Nat} (h : k < L.length) : L.drop k = L[k] :: L.drop (k + 1) := List.drop_eq_getElem_cons h
/-- what is kept while changes are gathered -/
def ChgK (wb wr : World) (op : Int) (ls : List (List UInt8)) (N k p : Nat) (A : Option Addr) (c : Nat) (D : List ChP) : Prop :=
  D.length ≤ k ∧ D ++ chsL op p k (ls.drop k) = chsL op 0 0 ls ∧ p + totL (ls.drop k) = N + 1 ∧ k ≤ p ∧
  wr.ownsRow wb.heap.size 160 3 (.slice A D.length c) D.length (flatC D) ∧ Below wb.heap.size wb wr
theorem ChgK.none {wb wr w' : World} {op : Int} {ls : List (List UInt8)} {N k p : Nat} {A : Option Addr} {c : Nat} {D : List ChP} (h : ChgK wb wr op ls N k p A c D) (hk : k < ls.length) (hb : Below wr.heap.size wr w') (h0 : chP op p k ls[k] = []) :
    ChgK wb w' op ls N (k + 1) (p + ls[k].length + 1) A c D := by
  obtain ⟨a1, a2, a3, a4, a5, a6⟩ := h
  rw [drop_line hk] at a2 a3
  rw [totL_cons] at a3
  refine ⟨by omega, ?_, by omega, by omega, own_keep a5 hb (Nat.le_refl _), a6.trans (hb.mono a6.size)⟩
  rw [← a2]
  show _ = D ++ (chP op p k ls[k] ++ _)
  rw [h0]; rfl
theorem ChgK.one {wb wr w' : World} {op : Int} {ls : List (List UInt8)} {N k p : Nat} {A A' : Option Addr} {c c' : Nat} {D : List ChP} (h : ChgK wb wr op ls N k p A c D) (hk : k < ls.length) {g : ChP} (h0 : chP op p k ls[k] = [g]) (own : w'.ownsRow wb.heap.size 160 3 (.slice A' (D.length + 1) c') (D.length + 1) (flatC D ++ [.int .i64 (g.f : Nat), .int .i64 (g.t : Nat), .string ⟨g.put.toArray⟩])) (hb : Below wb.heap.size wb w') :
    ChgK wb w' op ls N (k + 1) (p + ls[k].length + 1) A' c' (D ++ [g]) := by
  obtain ⟨a1, a2, a3, a4, a5, a6⟩ := h
  rw [drop_line hk] at a2 a3
  rw [totL_cons] at a3
  have hl : (D ++ [g]).length = D.length + 1 := by simp
  refine ⟨by omega, ?_, by omega, by omega, by rw [hl, flatC_snoc]; exact own, hb⟩
  rw [← a2]
  show _ = D ++ (chP op p k ls[k] ++ _)
  rw [h0]; simp
set_option maxHeartbeats 8000000 in
theorem oxChanges_any (V : List UInt8) (hV : V.length ≤ 4096) (op : Int) (hop : op = 62 ∨ op = 60 ∨ op = 74) (w : World) :
    Calls Tryz.prog 156 #[.string ⟨V.toArray⟩, .int .i32 op] w fun e w' => ∃ A c, e = .returned (.slice A (chsL op 0 0 (linesOf V)).length c) ∧ w'.ownsRow w.heap.size 160 3 (.slice A (chsL op 0 0 (linesOf V)).length c) (chsL op 0 0 (linesOf V)).length (flatC (chsL op 0 0 (linesOf V))) ∧ Below w.heap.size w w' := by
  have HSP := Lib.hid (fun wx => stdSplit_any V (by omega) wx)
  have htot := tot_lines V
  have hll : (linesOf V).length ≤ 4097 := by rw [linesOf_count]; have := countL_le V; omega
  have hlen : ∀ x ∈ linesOf V, x.length ≤ 1000000 := by
    have key : ∀ (r : List (List UInt8)), ∀ x ∈ r, x.length ≤ totL r := by
      intro r
      induction r with
      | nil => intro x hx; cases hx
      | cons z r ih =>
        intro x hx
        rw [totL_cons]
        rcases List.mem_cons.1 hx with h | h
        · rw [h]; omega
        · have := ih x h; omega
    intro x hx
    have := key _ x hx
    omega
  obtain ⟨ls, hls⟩ : ∃ ls, linesOf V = ls := ⟨_, rfl⟩
  rw [hls] at HSP htot hll hlen
  rw [hls]
  obtain ⟨v, hv⟩ : ∃ v, chsL op 0 0 ls = v := ⟨_, rfl⟩
  rw [hv]
  have HV := Lib.hid hv
  have HLEN := Lib.hid hlen
  have HTOT := Lib.hid htot
  clear hls hv hlen htot
  generalize hN : V.length = N at *
  have HN := Lib.hid hN
  clear hN
  have BW : Hid (Below w.heap.size w (w.alloc (.cells (ls.map fun x => Value.string ⟨x.toArray⟩).toArray 9))) := (Below.refl _ _).alloc (Nat.le_refl _) _
  have CB : Hid (Blk (w.alloc (.cells (ls.map fun x => Value.string ⟨x.toArray⟩).toArray 9)) w.heap.size 9 (ls.map fun x => Value.string ⟨x.toArray⟩).toArray) := Blk.new _ _ _
  go_enter Tryz.func156, Tryz.ntmps156
  go_wp2_with (go_at_call 184; refine (HSP.out _).mono ?_; rintro e w1 ⟨rfl, hw1⟩; subst hw1)
  generalize hge : w.heap.size = g at *
  have HGE := Lib.hid hge
  generalize w.alloc (.cells (ls.map fun x => Value.string ⟨x.toArray⟩).toArray 9) = wb at *
  generalize had : (⟨g, 0, none⟩ : Addr) = ad0 at *
  have HAD : Hid (∀ k : Nat, ad0.add k = ⟨g, k, none⟩) := fun k => by rw [← had]; exact (base_add g k)
  clear had hge
  have hgb : Hid (g < wb.heap.size) := CB.out.lt
  go_loopw [5, 6, 13] (fun s5 s6 i wr => ∃ (k p : Nat) (A : Option Addr) (c : Nat) (D : List ChP), s5 = .slice A D.length c ∧ s6 = .int .i64 (p : Nat) ∧ i = .int .i64 (k : Nat) ∧ k ≤ ls.length ∧ Hid (ChgK wb wr op ls N k p A c D)) (fun _ _ i _ => ls.length - (intOf i).toNat)
  case atStart => exact ⟨0, 0, none, 0, [], rfl, rfl, rfl, Nat.zero_le _, ⟨Nat.le_refl _, rfl, by rw [List.drop_zero, Nat.zero_add]; exact HTOT.out, Nat.le_refl _, World.ownsRow_nil _ _ _ _, Below.refl _ _⟩⟩
  case round =>
    obtain ⟨k, p, A, c, D, rfl, rfl, rfl, hk, HK⟩ := hrel
    by_cases hlt : k < ls.length
    · have hcell := (CB.out.below HK.out.2.2.2.2.2 hgb.out).cell k
      have hlx := HLEN.out ls[k] (List.getElem_mem hlt)
      have hp := HK.out.2.2.1
      have hkp := HK.out.2.2.2.1
      rw [drop_line hlt, totL_cons] at hp
      have hpl : p + ls[k].length ≤ N := by omega
      have hD := HK.out.1
      have hw := HK.out.2.2.2.2.2.size
      have KN := Lib.hid (fun w' hb h0 => HK.out.none (w' := w') hlt hb h0)
      have KO := Lib.hid (fun w' A' c' g hb own h0 => HK.out.one (w' := w') (A' := A') (c' := c') hlt (g := g) h0 own hb)
      have HOWN := Lib.hid HK.out.2.2.2.2.1
      have HBEL := Lib.hid HK.out.2.2.2.2.2
      rw [← HAD.out k] at hcell
      simp only [List.getElem?_toArray, List.getElem?_map, List.getElem?_eq_getElem hlt, Option.map_some] at hcell
      have hbn := inB_le ls[k]
      have HBK := Lib.hid (fun wx => oxBlanks_any ls[k] hlx wx)
      clear hp HK
      generalize ls[k] = x at *
      obtain ⟨bn, hbn2⟩ : ∃ bn, inB x = bn := ⟨_, rfl⟩
      rw [hbn2] at HBK hbn
      have HB2 := Lib.hid hbn2
      clear hbn2
      rcases hop with rfl | rfl | rfl
      · by_cases hx : x = []
        · have HC : Hid (chP 62 p k x = []) := by show _ = _; unfold chP; rw [if_neg (fun h => h.2 hx), if_neg (fun h => absurd h.1 (by decide)), if_neg (fun h => absurd h.1 (by decide)), if_neg (fun h => absurd h.1 (by decide))]
          have x1 : (x == []) = true := by rw [hx]; rfl
          have x2 : (x != []) = false := by rw [hx]; rfl
          clear hx
          go_wp2_with (go_at_call 185; refine (HBK.out _).mono ?_; rintro e w3 ⟨rfl, b3⟩; have HO3 := Lib.hid (own_keep HOWN.out b3 (Nat.le_refl _)); have HB3 := Lib.hid (HBEL.out.trans (b3.mono hw)); have hw3 : wb.heap.size ≤ w3.heap.size := Nat.le_trans hw b3.size; have KN3 := Lib.hid (KN.out w3 b3))
          go_roundw
          case rel => exact ⟨k + 1, p + x.length + 1, A, c, D, rfl, by go_num, by go_num, hlt, KN3.out HC.out⟩
          case measure => simp [intOf]; omega
        · have HC : Hid (chP 62 p k x = [⟨p, p, [9]⟩]) := if_pos ⟨rfl, hx⟩
          have x1 : (x == []) = false := by rw [beq_eq_false_iff_ne]; exact hx
          have x2 : (x != []) = true := by rw [bne_iff_ne]; exact hx
          clear hx
          go_wp2_with (first
            | (go_at_call 185; refine (HBK.out _).mono ?_; rintro e w3 ⟨rfl, b3⟩; have HO3 := Lib.hid (own_keep HOWN.out b3 (Nat.le_refl _)); have HB3 := Lib.hid (HBEL.out.trans (b3.mono hw)); have hw3 : wb.heap.size ≤ w3.heap.size := Nat.le_trans hw b3.size; have KN3 := Lib.hid (KN.out w3 b3))
            | (at_builtin; refine wpList_pushN rfl (.tmp 27) (.tmp 31) 155 rfl wb.heap.size 160 _ 3 32 elt_chg 160 (.slice A D.length c) D.length (flatC D) rfl HO3.out [.int .i64 (p : Nat), .int .i64 (p : Nat), .string ⟨#[9]⟩] _ rfl rfl rfl (by simp [Value.oneCell']) (by unfold maxLen; omega) (by omega) hw3 ?_; intro v4 w4 own4 b4 _; obtain ⟨A5, c5, rfl⟩ := own_form own4; have HO4 := Lib.hid own4; have HB4 := Lib.hid (HB3.out.trans b4); clear own4 b4))
          go_roundw
          case rel => exact ⟨k + 1, p + x.length + 1, A5, c5, D ++ [(⟨p, p, [9]⟩ : ChP)], by simp, by go_num, by go_num, hlt, Lib.hid (KO.out w4 A5 c5 (⟨p, p, [9]⟩ : ChP) HB4.out HO4.out HC.out)⟩
          case measure => simp [intOf]; omega
      · by_cases hb : 0 < bn
        · have HC : Hid (chP 60 p k x = [⟨p, p + 1, []⟩]) := by show _ = _; unfold chP; rw [if_neg (fun h => absurd h.1 (by decide)), if_pos ⟨rfl, by rw [HB2.out]; exact hb⟩]
          have x1 : decide (0 < bn) = true := decide_eq_true hb
          have x2 : decide ((0 : Int) < (bn : Int)) = true := decide_eq_true (by omega)
          go_wp2_with (first
            | (go_at_call 185; refine (HBK.out _).mono ?_; rintro e w3 ⟨rfl, b3⟩; have HO3 := Lib.hid (own_keep HOWN.out b3 (Nat.le_refl _)); have HB3 := Lib.hid (HBEL.out.trans (b3.mono hw)); have hw3 : wb.heap.size ≤ w3.heap.size := Nat.le_trans hw b3.size; have KN3 := Lib.hid (KN.out w3 b3))
            | (at_builtin; refine wpList_pushN rfl (.tmp 40) (.tmp 45) 155 rfl wb.heap.size 160 _ 3 32 elt_chg 160 (.slice A D.length c) D.length (flatC D) rfl HO3.out [.int .i64 (p : Nat), .int .i64 ((p + 1 : Nat) : Int), .string ⟨#[]⟩] _ rfl rfl rfl (by simp [Value.oneCell']) (by unfold maxLen; omega) (by omega) hw3 ?_; intro v4 w4 own4 b4 _; obtain ⟨A5, c5, rfl⟩ := own_form own4; have HO4 := Lib.hid own4; have HB4 := Lib.hid (HB3.out.trans b4); clear own4 b4))
          go_roundw
          case rel => exact ⟨k + 1, p + x.length + 1, A5, c5, D ++ [(⟨p, p + 1, []⟩ : ChP)], by simp, by go_num, by go_num, hlt, Lib.hid (KO.out w4 A5 c5 (⟨p, p + 1, []⟩ : ChP) HB4.out HO4.out HC.out)⟩
          case measure => simp [intOf]; omega
        · have HC : Hid (chP 60 p k x = []) := by show _ = _; unfold chP; rw [if_neg (fun h => absurd h.1 (by decide)), if_neg (fun h => hb (by have := h.2; rw [HB2.out] at this; exact this)), if_neg (fun h => absurd h.1 (by decide)), if_neg (fun h => absurd h.1 (by decide))]
          have x1 : decide (0 < bn) = false := decide_eq_false hb
          have x2 : decide ((0 : Int) < (bn : Int)) = false := decide_eq_false (by omega)
          go_wp2_with (go_at_call 185; refine (HBK.out _).mono ?_; rintro e w3 ⟨rfl, b3⟩; have HO3 := Lib.hid (own_keep HOWN.out b3 (Nat.le_refl _)); have HB3 := Lib.hid (HBEL.out.trans (b3.mono hw)); have hw3 : wb.heap.size ≤ w3.heap.size := Nat.le_trans hw b3.size; have KN3 := Lib.hid (KN.out w3 b3))
          go_roundw
          case rel => exact ⟨k + 1, p + x.length + 1, A, c, D, rfl, by go_num, by go_num, hlt, KN3.out HC.out⟩
          case measure => simp [intOf]; omega
      · by_cases hk0 : 0 < k
        · have y1 : decide (0 < k) = true := decide_eq_true hk0
          have y2 : decide ((0 : Int) < (k : Int)) = true := decide_eq_true (by omega)
          have hp1 : 1 ≤ p := by omega
          have hpc : ((p - 1 : Nat) : Int) = (p : Int) - 1 := by omega
          have HPC := Lib.hid hpc
          clear hpc
          by_cases hb : bn = x.length
          · have HC : Hid (chP 74 p k x = [⟨p - 1, p + bn, []⟩]) := by show _ = _; unfold chP; rw [if_neg (fun h => absurd h.1 (by decide)), if_neg (fun h => absurd h.1 (by decide)), if_pos ⟨rfl, hk0, by rw [HB2.out]; exact hb⟩, HB2.out]
            have x1 : ((bn : Int) == (x.length : Int)) = true := by rw [beq_iff_eq]; omega
            have HB := Lib.hid hb
            clear hb
            go_wp2_with (first
              | (go_at_call 185; refine (HBK.out _).mono ?_; rintro e w3 ⟨rfl, b3⟩; have HO3 := Lib.hid (own_keep HOWN.out b3 (Nat.le_refl _)); have HB3 := Lib.hid (HBEL.out.trans (b3.mono hw)); have hw3 : wb.heap.size ≤ w3.heap.size := Nat.le_trans hw b3.size; have KN3 := Lib.hid (KN.out w3 b3))
              | (at_builtin; refine wpList_pushN rfl (.tmp 60) (.tmp 67) 155 rfl wb.heap.size 160 _ 3 32 elt_chg 160 (.slice A D.length c) D.length (flatC D) rfl HO3.out [.int .i64 ((p : Int) - 1), .int .i64 ((p + bn : Nat) : Int), .string ⟨#[]⟩] _ rfl rfl rfl (by simp [Value.oneCell']) (by unfold maxLen; omega) (by omega) hw3 ?_; intro v4 w4 own4 b4 _; obtain ⟨A5, c5, rfl⟩ := own_form own4; have HO4 := Lib.hid own4; have HB4 := Lib.hid (HB3.out.trans b4); clear own4 b4))
            go_roundw
            case rel => exact ⟨k + 1, p + x.length + 1, A5, c5, D ++ [(⟨p - 1, p + bn, []⟩ : ChP)], by simp, by go_num, by go_num, hlt, Lib.hid (KO.out w4 A5 c5 (⟨p - 1, p + bn, []⟩ : ChP) HB4.out (by rw [HPC.out]; exact HO4.out) HC.out)⟩
            case measure => simp [intOf]; omega
          · have HC : Hid (chP 74 p k x = [⟨p - 1, p + bn, [32]⟩]) := by show _ = _; unfold chP; rw [if_neg (fun h => absurd h.1 (by decide)), if_neg (fun h => absurd h.1 (by decide)), if_neg (fun h => hb (by have := h.2.2; rw [HB2.out] at this; exact this)), if_pos ⟨rfl, hk0⟩, HB2.out]
            have x1 : ((bn : Int) == (x.length : Int)) = false := by rw [beq_eq_false_iff_ne]; omega
            have HB := Lib.hid hb
            clear hb
            go_wp2_with (first
              | (go_at_call 185; refine (HBK.out _).mono ?_; rintro e w3 ⟨rfl, b3⟩; have HO3 := Lib.hid (own_keep HOWN.out b3 (Nat.le_refl _)); have HB3 := Lib.hid (HBEL.out.trans (b3.mono hw)); have hw3 : wb.heap.size ≤ w3.heap.size := Nat.le_trans hw b3.size; have KN3 := Lib.hid (KN.out w3 b3))
              | (at_builtin; refine wpList_pushN rfl (.tmp 76) (.tmp 83) 155 rfl wb.heap.size 160 _ 3 32 elt_chg 160 (.slice A D.length c) D.length (flatC D) rfl HO3.out [.int .i64 ((p : Int) - 1), .int .i64 ((p + bn : Nat) : Int), .string ⟨#[32]⟩] _ rfl rfl rfl (by simp [Value.oneCell']) (by unfold maxLen; omega) (by omega) hw3 ?_; intro v4 w4 own4 b4 _; obtain ⟨A5, c5, rfl⟩ := own_form own4; have HO4 := Lib.hid own4; have HB4 := Lib.hid (HB3.out.trans b4); clear own4 b4))
            go_roundw
            case rel => exact ⟨k + 1, p + x.length + 1, A5, c5, D ++ [(⟨p - 1, p + bn, [32]⟩ : ChP)], by simp, by go_num, by go_num, hlt, Lib.hid (KO.out w4 A5 c5 (⟨p - 1, p + bn, [32]⟩ : ChP) HB4.out (by rw [HPC.out]; exact HO4.out) HC.out)⟩
            case measure => simp [intOf]; omega
        · have HC : Hid (chP 74 p k x = []) := by show _ = _; unfold chP; rw [if_neg (fun h => absurd h.1 (by decide)), if_neg (fun h => absurd h.1 (by decide)), if_neg (fun h => hk0 h.2.1), if_neg (fun h => hk0 h.2)]
          have y1 : decide (0 < k) = false := decide_eq_false hk0
          have y2 : decide ((0 : Int) < (k : Int)) = false := decide_eq_false (by omega)
          go_wp2_with (go_at_call 185; refine (HBK.out _).mono ?_; rintro e w3 ⟨rfl, b3⟩; have HO3 := Lib.hid (own_keep HOWN.out b3 (Nat.le_refl _)); have HB3 := Lib.hid (HBEL.out.trans (b3.mono hw)); have hw3 : wb.heap.size ≤ w3.heap.size := Nat.le_trans hw b3.size; have KN3 := Lib.hid (KN.out w3 b3))
          go_roundw
          case rel => exact ⟨k + 1, p + x.length + 1, A, c, D, rfl, by go_num, by go_num, hlt, KN3.out HC.out⟩
          case measure => simp [intOf]; omega
    · obtain rfl : k = ls.length := by omega
      obtain ⟨a1, a2, a3, a4, a5, a6⟩ := HK.out
      rw [List.drop_length] at a2
      have a2' : D = v := by rw [← HV.out, ← a2]; show D = D ++ []; rw [List.append_nil]
      subst a2'
      have HO := Lib.hid a5
      have HB := Lib.hid a6
      clear a2 a5 a6 HK
      go_wp2_with fail
      go_ret
      have hwb : w.heap.size ≤ wb.heap.size := by rw [HGE.out]; exact Nat.le_of_lt hgb.out
      have bw : Below w.heap.size w wb := by rw [HGE.out]; exact BW.out
      exact ⟨A, c, rfl, own_base HO.out hwb, bw.trans (HB.out.mono hwb)⟩
end Go.Proofs.YtgpmfkedcoiopaaGreatDoor

/-
  The landed changed: changes of a labelled text, the last one first: layer 14.
-/
namespace Go.Proofs.YtgpmfkedcoiopaaGreatDoor
open Go.RowKit
set_option maxRecDepth 100000

/-- the last store: a text into the result's variable -/
theorem end_txt {fn : Func} {p u : Tmp} (h : fn.results = #[.cell p 32, .tmp u]) (act : Act) {w wr : World} {g : Nat} {s0 : ByteArray} {B0 : Option Addr} {i0 j0 : Nat} (hres : Blk wr g 32 #[.string s0, .slice B0 i0 j0]) (hb : Below w.heap.size w wr) (hg : w.heap.size ≤ g)
    {A : Option Addr} {c : Nat} {S : List UInt8} {l : List RunP} {n : Nat} (rA : Row wr wr.heap.size A (flatR l)) (hp : act.tmps.getD p undef = .pointer (some ⟨g, 0, none⟩)) (hu : act.tmps.getD u undef = .int .i64 (n : Nat)) (hd : act.defers = [])
    {v : TP × Nat} (hv : (((S, l) : TP), n) = v) {Q : Ending → World → Prop} (hQ : ∀ e w', Shows w v e w' → Q e w') :
    bodyPost Tryz.prog fn Q .ret act ((wr.setCell ⟨g, 0, none⟩ (.string ⟨S.toArray⟩)).setCell ⟨g, 1, none⟩ (.slice A l.length c)) := by
  have hk : ∀ i, w.heap.size ≤ (⟨g, i, none⟩ : Addr).block := fun i => hg
  refine ret_text h _ _ g _ _ hp (blk_two hres _ _) hd (hQ _ _ ?_)
  rw [hu, ← hv]
  exact ⟨A, c, rfl, (((rowN_noLab rA (Nat.le_refl _) hres noLab_txt).set 0 _).set 1 _).row, (hb.setCell (hk 0) _).setCell (hk 1) _⟩
theorem flatC_at : ∀ (L : List ChP) (m : Nat) (h : m < L.length), (flatC L)[m * 3]? = some (.int .i64 (L[m].f : Nat)) ∧ (flatC L)[m * 3 + 1]? = some (.int .i64 (L[m].t : Nat)) ∧ (flatC L)[m * 3 + 2]? = some (.string ⟨L[m].put.toArray⟩)
  | c :: L, 0, _ => ⟨rfl, rfl, rfl⟩
  | c :: L, m + 1, h => by
    have ih := flatC_at L m (by simpa using h)
    have e : flatC (c :: L) = [.int .i64 (c.f : Nat), .int .i64 (c.t : Nat), .string ⟨c.put.toArray⟩] ++ flatC L := by simp [flatC]
    have k : ∀ j, (flatC (c :: L))[(m + 1) * 3 + j]? = (flatC L)[m * 3 + j]? := fun j => by
      rw [e, List.getElem?_append_right (by simp; omega)]
      congr 1
      simp; omega
    exact ⟨(k 0).trans ih.1, (k 1).trans ih.2.1, (k 2).trans ih.2.2⟩
theorem chg_at {w : World} {B : Nat} {A : Option Addr} {L : List ChP} (h : Row w B A (flatC L)) {m : Nat} (hm : m < L.length) :
    ∃ ad, A = some ad ∧ ad.block < B ∧ w.cell? (ad.add (m * 3)) = some (.int .i64 (L[m].f : Nat)) ∧ w.cell? ⟨(ad.add (m * 3)).block, (ad.add (m * 3)).off + 1, none⟩ = some (.int .i64 (L[m].t : Nat)) ∧ w.cell? ⟨(ad.add (m * 3)).block, (ad.add (m * 3)).off + 2, none⟩ = some (.string ⟨L[m].put.toArray⟩) := by
  obtain ⟨g0, g1, g2⟩ := flatC_at L m hm
  rcases h with h | ⟨ad, rfl, hb, hc⟩
  · rw [h] at g0; cases g0
  · have c1 := hc _ _ g1
    have c2 := hc _ _ g2
    rw [add_field _ _ 1 (by decide)] at c1
    rw [add_field _ _ 2 (by decide)] at c2
    exact ⟨ad, rfl, hb, hc _ _ g0, c1, c2⟩
theorem chgT_err {y : Nat} {S : List UInt8} {l : List RunP} {n : Nat} : ∀ (k : Nat) (L : List ChP), (chgT y S l (L.drop k)).2 = n → n ≠ 0 → (chgT y S l (L.drop k)).1 = ([], []) → chgT y S l L = (([], []), n)
  | 0, L, h, _, h1 => by
    rw [List.drop_zero] at h h1
    exact Prod.ext h1 h
  | k + 1, [], h, hn, h1 => by
    rw [List.drop_nil] at h h1
    exact Prod.ext h1 h
  | k + 1, c :: L, h, hn, h1 => by
    have ih := chgT_err k L h hn h1
    show (if (chgT y S l L).2 = 0 then _ else (([], []), (chgT y S l L).2)) = _
    rw [ih]
    exact if_neg hn
theorem cell_many_far {w : World} {p : Addr} {u : Value} {g : Nat} (h : w.cell? p = some u) (hp : p.block ≠ g) (us : List (Nat × Value)) : (setMany w g us).cell? p = some u := by
  induction us generalizing w with
  | nil => exact h
  | cons q us ih => exact ih ((World.cell?_of_block (heap_setCell_other _ ⟨g, q.1, none⟩ _ _ hp)).trans h)
/-- what is kept while changes are made -/
structure ChdK (w wr : World) (A B : Option Addr) (c : Nat) (S : List UInt8) (l : List RunP) (L : List ChP) : Prop where
  t3 : Blk wr w.heap.size 32 #[.string ⟨S.toArray⟩, .slice A l.length c]
  res : Blk wr (w.heap.size + 1) 32 #[.string ⟨[].toArray⟩, .slice none ([] : List RunP).length 0]
  bel : Below w.heap.size w wr
  tx : Txu wr A S l
  row : RowN wr w.heap.size B (flatC L)
theorem ChdK.step {w wr w' : World} {A B : Option Addr} {c : Nat} {S : List UInt8} {l : List RunP} {L : List ChP} (h : ChdK w wr A B c S l L) (hb : Below wr.heap.size wr w') : ChdK w w' A B c S l L :=
  ⟨h.t3.below hb h.t3.lt, h.res.below hb h.res.lt, h.bel.trans (hb.mono h.bel.size), grow_txu h.tx _ hb, grow_rowN h.row _ hb⟩
theorem ChdK.set {w wr : World} {A B A' : Option Addr} {c c' : Nat} {S S' : List UInt8} {l l' : List RunP} {L : List ChP} (h : ChdK w wr A B c S l L) (h' : Txu wr A' S' l') :
    ChdK w ((wr.setCell ⟨w.heap.size, 0, none⟩ (.string ⟨S'.toArray⟩)).setCell ⟨w.heap.size, 1, none⟩ (.slice A' l'.length c')) A' B c' S' l' L :=
  ⟨blk_two h.t3 _ _, setMany_far h.res (by omega) [(0, .string ⟨S'.toArray⟩), (1, .slice A' l'.length c')], setMany_below h.bel (Nat.le_refl _) [(0, .string ⟨S'.toArray⟩), (1, .slice A' l'.length c')], setMany_txu h' h.t3 noLab_txt [(0, .string ⟨S'.toArray⟩), (1, .slice A' l'.length c')], (h.row.set 0 _).set 1 _⟩
set_option maxHeartbeats 8000000 in
theorem oxChanged_any (A B : Option Addr) (c d : Nat) (S : List UInt8) (l : List RunP) (y : Nat) (hy : y < 18446744073709551616) (L : List ChP) (hL : ∀ g ∈ L, g.put.length ≤ 4096 ∧ g.f ≤ 1000000 ∧ g.t ≤ 1000000) (hLl : L.length ≤ 1000000) (w : World) (h : Txu w A S l) (hB : Row w w.heap.size B (flatC L)) :
    Calls Tryz.prog 157 #[.agg #[.string ⟨S.toArray⟩, .slice A l.length c], .int .u64 (y : Nat), .slice B L.length d] w (Shows w (chgT y S l L)) := by
  obtain ⟨v, hv⟩ : ∃ v, chgT y S l L = v := ⟨_, rfl⟩
  rw [hv]
  have HV := Lib.hid hv
  clear hv
  have HL := Lib.hid hL
  have K0 : Hid (ChdK w ((w.alloc (.cells #[.string ⟨S.toArray⟩, .slice A l.length c] 32)).alloc (.cells #[.string ⟨[].toArray⟩, .slice none ([] : List RunP).length 0] 32)) A B c S l L) := by
    have BX := boxesE2 w 32 32 #[.string ⟨S.toArray⟩, .slice A l.length c] #[.string ⟨[].toArray⟩, .slice none ([] : List RunP).length 0]
    exact ⟨BX.now.1, BX.now.2.1, BX.now.2.2, grow_txu h _ BX.now.2.2, grow_rowN (rowN_row (g := w.heap.size) hB (Nat.le_refl _) (Nat.le_refl _)) _ BX.now.2.2⟩
  clear h hB hL
  go_enter Tryz.func157, Tryz.ntmps157
  go_upto_region 1 with fail
  generalize (w.alloc (.cells #[.string ⟨S.toArray⟩, .slice A l.length c] 32)).alloc (.cells #[.string ⟨[].toArray⟩, .slice none ([] : List RunP).length 0] 32) = wx at *
  go_wp2_with fail
  go_loopw [8] (fun i wr => ∃ (j : Nat) (x : Int) (A' : Option Addr) (c' : Nat) (S' : List UInt8) (l' : List RunP), i = .int .i64 x ∧ Hid (x = (j : Int) - 1) ∧ j ≤ L.length ∧ Hid (chgT y S l (L.drop j) = ((S', l'), 0)) ∧ Hid (ChdK w wr A' B c' S' l' L)) (fun i _ => ((intOf i) + 1).toNat)
  case atStart => exact ⟨L.length, _, A, c, S, l, rfl, rfl, Nat.le_refl _, by show _ = _; rw [List.drop_length]; rfl, K0⟩
  case round =>
    clear K0
    obtain ⟨j, x, A', c', S', l', rfl, HX, hj, HC, HK⟩ := hrel
    by_cases hj0 : j = 0
    · subst hj0
      have hx : x < 0 := by have := HX.out; omega
      have hx2 : decide (0 ≤ x) = false := decide_eq_false (by omega)
      have HV2 : Hid ((((S', l') : TP), 0) = v) := by show _ = _; rw [← HV.out, ← HC.out, List.drop_zero]
      obtain ⟨y0, y1⟩ := txt_cells HK.out.t3
      obtain ⟨z0, z1⟩ := txt_cells HK.out.res
      have z2 := HK.out.res.frozen 0
      have z3 := HK.out.res.frozen 1
      go_wp2_with fail
      exact end_txt rfl _ HK.out.res HK.out.bel (by omega) HK.out.tx.row rfl rfl rfl HV2.out (fun _ _ h => h)
    · obtain ⟨m, rfl⟩ : ∃ m, j = m + 1 := ⟨j - 1, by omega⟩
      obtain rfl : x = (m : Int) := by have := HX.out; omega
      have hm : m < L.length := by omega
      have hx2 : decide ((0 : Int) ≤ (m : Int)) = true := decide_eq_true (by omega)
      have hmi : (m : Int) < (L.length : Int) := by omega
      obtain ⟨ad, rfl, hbl, d0, d1, d2⟩ := chg_at HK.out.row.row hm
      have hdr : L.drop m = L[m] :: L.drop (m + 1) := List.drop_eq_getElem_cons hm
      have hok := HL.out L[m] (List.getElem_mem hm)
      have hst : chgT y S l (L.drop m) = spliceT S' l' (L[m].f : Nat) (L[m].t : Nat) (makeOf L[m].put y).1.1 (makeOf L[m].put y).1.2 := by
        rw [hdr]
        show (if (chgT y S l (L.drop (m + 1))).2 = 0 then spliceT (chgT y S l (L.drop (m + 1))).1.1 (chgT y S l (L.drop (m + 1))).1.2 (L[m].f : Nat) (L[m].t : Nat) (makeOf L[m].put y).1.1 (makeOf L[m].put y).1.2 else _) = _
        rw [HC.out]
        exact if_pos rfl
      have hmk : makeOf L[m].put y = ((L[m].put, pack (List.replicate L[m].put.length y)), 0) := if_pos hok.1
      rw [hmk] at hst
      have HST := Lib.hid hst
      have HER := Lib.hid (fun n => chgT_err (y := y) (S := S) (l := l) (n := n) m L)
      clear hdr hst HC
      generalize L[m] = g at *
      obtain ⟨gf, gt, gp⟩ := g
      dsimp only at d0 d1 d2 hok HST hmk
      have okm : OkT ((gp, pack (List.replicate gp.length y)), 0) := by have := okT_make gp y hy; rwa [hmk] at this
      have oks := okT_splice (S := S') (X := gp) (l := l') (m := pack (List.replicate gp.length y)) HK.out.tx.hf okm.2.1 (gf : Nat) (gt : Nat)
      have hse := spliceT_err (S := S') (l := l') (f := (gf : Nat)) (t := (gt : Nat)) (X := gp) (m := pack (List.replicate gp.length y))
      obtain ⟨q, hq⟩ : ∃ q, pack (List.replicate gp.length y) = q := ⟨_, rfl⟩
      rw [hq] at hmk okm oks hse HST
      obtain ⟨sp, hsp⟩ : ∃ sp, spliceT S' l' (gf : Nat) (gt : Nat) gp q = sp := ⟨_, rfl⟩
      rw [hsp] at oks hse HST
      have HMK := Lib.hid hmk
      have HSP := Lib.hid hsp
      have OKM := Lib.hid okm
      have OKS := Lib.hid oks
      have HSE := Lib.hid hse
      obtain ⟨hg1, hg2, hg3⟩ := hok
      clear hq hmk hsp okm oks hse hj0
      obtain ⟨⟨S5, l5⟩, n⟩ := sp
      have K3 := HK
      go_upto_region 7 with (go_at_call 67; refine (stpMake_any gp (by unfold maxLen; omega) y hy _).mono ?_; rw [HMK.out]; rintro e w3 ⟨A3, c3, rfl, own, bb⟩; dsimp only at own ⊢; have K3 := Lib.hid ((HK.out.step bb).step ((Below.refl _ _).alloc (Nat.le_refl _) (.cells #[.string ⟨gp.toArray⟩, .slice A3 q.length c3] 32))); have B3 := Lib.hid (Blk.new w3 32 #[.string ⟨gp.toArray⟩, .slice A3 q.length c3]); have R3 := Lib.hid (row_step (Row.of_own own) ((Below.refl _ _).alloc (Nat.le_refl _) (.cells #[.string ⟨gp.toArray⟩, .slice A3 q.length c3] 32))); have N3 : Hid (w.heap.size + 1 < w3.heap.size) := (HK.out.step bb).res.lt; have D3 : Hid (Below wr.heap.size wr (w3.alloc (.cells #[.string ⟨gp.toArray⟩, .slice A3 q.length c3] 32))) := bb.alloc bb.size _; clear bb own)
      generalize hg9 : w3.heap.size = g9 at *
      generalize w3.alloc (.cells #[.string ⟨gp.toArray⟩, .slice A3 q.length c3] 32) = wb at *
      clear hg9 HK
      have e0 := (D3.out.cell (p := ad.add (m * 3)) (by rw [add_block]; exact hbl)).trans d0
      have e1 := (D3.out.cell (p := ⟨(ad.add (m * 3)).block, (ad.add (m * 3)).off + 1, none⟩) (by show (ad.add (m * 3)).block < _; rw [add_block]; exact hbl)).trans d1
      have hbl2 : Hid (ad.block < wb.heap.size) := Nat.lt_of_lt_of_le hbl D3.out.size
      clear d0 d1 d2 hbl
      have hb0 : Below wb.heap.size wb wb := Below.refl _ _
      have hbz : Below wb.heap.size wb wb.drew := below_drewN hb0 1
      have hne : Hid (ad.block ≠ w.heap.size) := by
        show _ ≠ _
        intro e
        have hlb : (flatC L)[m * 3]? ≠ Option.none := by rw [(flatC_at L m hm).1]; simp
        rcases K3.out.row with h | ⟨ad', e', hn, _, _⟩
        · rw [h] at hlb; simp at hlb
        · injection e' with e'; subst e'; exact hn e
      have KS : Hid (∀ w', Below wb.heap.size wb w' → ((w'.cell? ⟨g9, 0, none⟩ = some (.string ⟨gp.toArray⟩) ∧ w'.cell? ⟨g9, 1, none⟩ = some (.slice A3 q.length c3)) ∧ w'.cell? (ad.add (m * 3)) = some (.int .i64 (gf : Nat)) ∧ w'.cell? ⟨(ad.add (m * 3)).block, (ad.add (m * 3)).off + 1, none⟩ = some (.int .i64 (gt : Nat)))) := fun w' hb => ⟨txt_cells (B3.out.below hb B3.out.lt), (hb.cell (p := ad.add (m * 3)) (by rw [add_block]; exact hbl2.out)).trans e0, (hb.cell (p := ⟨(ad.add (m * 3)).block, (ad.add (m * 3)).off + 1, none⟩) (by show (ad.add (m * 3)).block < _; rw [add_block]; exact hbl2.out)).trans e1⟩
      have HSC := Lib.hid (fun wx (hb : Below wb.heap.size wb wx) => stpSplice_any A' A3 c' c3 _ _ S' gp l' q (gf : Nat) (gt : Nat) wx (Nat.le_refl _) (Nat.le_refl _) (K3.out.step hb).tx (OKM.out.txt (row_step R3.out hb)))
      rw [HSP.out] at HSC
      clear e0 e1
      go_cut [8, 10] (fun s8 s10 wc => s8 = .int .i64 (m : Nat) ∧ s10 = .int .i64 (n : Nat) ∧ ∃ (A5 : Option Addr) (c5 : Nat), Hid (ChdK w wc A5 (some ad) c5 S5 l5 L))
      case first =>
        obtain ⟨u0, u1⟩ := txt_cells K3.out.t3
        refine wp_region_held_drew (S := fun w' => ((w'.cell? ⟨g9, 0, none⟩ = some (.string ⟨gp.toArray⟩) ∧ w'.cell? ⟨g9, 1, none⟩ = some (.slice A3 q.length c3)) ∧ w'.cell? (ad.add (m * 3)) = some (.int .i64 (gf : Nat)) ∧ w'.cell? ⟨(ad.add (m * 3)).block, (ad.add (m * 3)).off + 1, none⟩ = some (.int .i64 (gt : Nat)))) (by kernel_rfl) (KS.out _ hbz) (fun hHeld => ?_)
        refine wpAnyH_take (i := 1) (v := ?_) rfl (by kernel_rfl) (by kernel_rfl) (by kernel_rfl) (fun _ _ _ h => h) (Or.inl ⟨by rfl, ?_⟩) (by assumption) ?_
        rotate_left
        · (intro w hSw; obtain ⟨⟨q0, q1⟩, q2, q3⟩ := hSw; go_simp; (try with_reducible rfl))
        (try simp only [List.getElem_toArray, List.getElem_cons_zero, List.getElem_cons_succ, Act.put, List.setIfInBounds_toArray, List.set_cons_zero, List.set_cons_succ])
        refine wpAnyH_take (i := 2) (v := ?_) rfl (by kernel_rfl) (by kernel_rfl) (by kernel_rfl) (fun _ _ _ h => h) (Or.inl ⟨by rfl, ?_⟩) (by assumption) ?_
        rotate_left
        · (intro w hSw; obtain ⟨⟨q0, q1⟩, q2, q3⟩ := hSw; go_simp; (try with_reducible rfl))
        (try simp only [List.getElem_toArray, List.getElem_cons_zero, List.getElem_cons_succ, Act.put, List.setIfInBounds_toArray, List.set_cons_zero, List.set_cons_succ])
        refine wpAnyH_take (i := 3) (v := ?_) rfl (by kernel_rfl) (by kernel_rfl) (by kernel_rfl) (fun _ _ _ h => h) (Or.inl ⟨by rfl, ?_⟩) (by assumption) ?_
        rotate_left
        · (intro w hSw; obtain ⟨⟨q0, q1⟩, q2, q3⟩ := hSw; go_simp; (try with_reducible rfl))
        (try simp only [List.getElem_toArray, List.getElem_cons_zero, List.getElem_cons_succ, Act.put, List.setIfInBounds_toArray, List.set_cons_zero, List.set_cons_succ])
        refine wpAnyH_take (i := 4) (v := ?_) rfl (by kernel_rfl) (by kernel_rfl) (by kernel_rfl) (fun _ _ _ h => h) (Or.inl ⟨by rfl, ?_⟩) (by assumption) ?_
        rotate_left
        · (intro w hSw; obtain ⟨⟨q0, q1⟩, q2, q3⟩ := hSw; go_simp; (try with_reducible rfl))
        (try simp only [List.getElem_toArray, List.getElem_cons_zero, List.getElem_cons_succ, Act.put, List.setIfInBounds_toArray, List.set_cons_zero, List.set_cons_succ])
        refine wpAnyH_take (i := 5) (v := ?_) rfl (by kernel_rfl) (by kernel_rfl) (by kernel_rfl) (fun _ _ _ h => h) (Or.inl ⟨by rfl, ?_⟩) (by assumption) ?_
        rotate_left
        · (intro w hSw; obtain ⟨⟨q0, q1⟩, q2, q3⟩ := hSw; go_simp; (try with_reducible rfl))
        (try simp only [List.getElem_toArray, List.getElem_cons_zero, List.getElem_cons_succ, Act.put, List.setIfInBounds_toArray, List.set_cons_zero, List.set_cons_succ])
        refine wpAnyH_take (i := 6) (v := ?_) rfl (by kernel_rfl) (by kernel_rfl) (by kernel_rfl) (fun _ _ _ h => h) (Or.inl ⟨by rfl, ?_⟩) (by assumption) ?_
        rotate_left
        · (intro w hSw; obtain ⟨⟨q0, q1⟩, q2, q3⟩ := hSw; go_simp; (try with_reducible rfl))
        (try simp only [List.getElem_toArray, List.getElem_cons_zero, List.getElem_cons_succ, Act.put, List.setIfInBounds_toArray, List.set_cons_zero, List.set_cons_succ])
        refine wpAnyH_take (i := 7) (v := ?_) rfl (by kernel_rfl) (by kernel_rfl) (by kernel_rfl) (fun _ _ _ h => h) (Or.inl ⟨by rfl, ?_⟩) (by assumption) ?_
        rotate_left
        · (intro w hSw; obtain ⟨⟨q0, q1⟩, q2, q3⟩ := hSw; go_simp; (try with_reducible rfl))
        (try simp only [List.getElem_toArray, List.getElem_cons_zero, List.getElem_cons_succ, Act.put, List.setIfInBounds_toArray, List.set_cons_zero, List.set_cons_succ])
        refine wpAnyH_take (i := 8) (v := ?_) rfl (by kernel_rfl) (by kernel_rfl) (by kernel_rfl) (fun _ _ _ h => h) (Or.inl ⟨by rfl, ?_⟩) (by assumption) ?_
        rotate_left
        · (intro w hSw; obtain ⟨⟨q0, q1⟩, q2, q3⟩ := hSw; go_simp; (try with_reducible rfl))
        (try simp only [List.getElem_toArray, List.getElem_cons_zero, List.getElem_cons_succ, Act.put, List.setIfInBounds_toArray, List.set_cons_zero, List.set_cons_succ])
        refine wpAnyH_take (i := 9) (v := ?_) rfl (by kernel_rfl) (by kernel_rfl) (by kernel_rfl) (fun _ _ _ h => h) (Or.inl ⟨by rfl, ?_⟩) (by assumption) ?_
        rotate_left
        · (intro w hSw; obtain ⟨⟨q0, q1⟩, q2, q3⟩ := hSw; go_simp; (try with_reducible rfl))
        (try simp only [List.getElem_toArray, List.getElem_cons_zero, List.getElem_cons_succ, Act.put, List.setIfInBounds_toArray, List.set_cons_zero, List.set_cons_succ])
        refine wpAnyH_take (i := 10) (v := ?_) rfl (by kernel_rfl) (by kernel_rfl) (by kernel_rfl) (fun _ _ _ h => h) (Or.inl ⟨by rfl, ?_⟩) (by assumption) ?_
        rotate_left
        · (intro w hSw; obtain ⟨⟨q0, q1⟩, q2, q3⟩ := hSw; go_simp; (try with_reducible rfl))
        (try simp only [List.getElem_toArray, List.getElem_cons_zero, List.getElem_cons_succ, Act.put, List.setIfInBounds_toArray, List.set_cons_zero, List.set_cons_succ])
        refine wpAnyH_take (i := 11) (v := ?_) rfl (by kernel_rfl) (by kernel_rfl) (by kernel_rfl) (fun _ _ _ h => h) (Or.inl ⟨by rfl, ?_⟩) (by assumption) ?_
        rotate_left
        · (intro w hSw; obtain ⟨⟨q0, q1⟩, q2, q3⟩ := hSw; go_simp; (try with_reducible rfl))
        (try simp only [List.getElem_toArray, List.getElem_cons_zero, List.getElem_cons_succ, Act.put, List.setIfInBounds_toArray, List.set_cons_zero, List.set_cons_succ])
        refine wpAnyH_ready (rs := [0]) (by kernel_rfl) (by simp) ?_
        refine AllReadyH.cons rfl (fun K hK => ?_) AllReadyH.nil
        go_simp
        refine hK.out _ _ (KS.out _ hbz) (fun hHeld => ?_)
        clear hK K
        (try simp only [List.getElem_toArray, List.getElem_cons_zero, List.getElem_cons_succ, Act.put, List.setIfInBounds_toArray, List.set_cons_zero, List.set_cons_succ])
        refine wpAnyH_ready (rs := [12]) (by kernel_rfl) (by simp) ?_
        refine AllReadyH.cons rfl (fun K hK => ?_) AllReadyH.nil
        go_simp
        refine (HSC.out _ hbz).mono ?_
        rintro ee w9 ⟨A5, c5, rfl, own5, hby⟩
        dsimp only at own5 ⊢
        have hbx : Below wb.heap.size wb w9 := hbz.trans (hby.mono hbz.size)
        (try go_wp2_with fail)
        refine hK.out _ _ (KS.out _ hbx) (fun hHeld => ?_)
        clear hK K
        (try simp only [List.getElem_toArray, List.getElem_cons_zero, List.getElem_cons_succ, Act.put, List.setIfInBounds_toArray, List.set_cons_zero, List.set_cons_succ])
        refine wpAnyH_take (i := 13) (v := ?_) rfl (by kernel_rfl) (by kernel_rfl) (by kernel_rfl) (fun _ _ _ h => h) (Or.inl ⟨by rfl, ?_⟩) (by assumption) ?_
        rotate_left
        · (intro w hSw; obtain ⟨⟨q0, q1⟩, q2, q3⟩ := hSw; go_simp; (try with_reducible rfl))
        (try simp only [List.getElem_toArray, List.getElem_cons_zero, List.getElem_cons_succ, Act.put, List.setIfInBounds_toArray, List.set_cons_zero, List.set_cons_succ])
        refine wpAnyH_take (i := 14) (v := ?_) rfl (by kernel_rfl) (by kernel_rfl) (by kernel_rfl) (fun _ _ _ h => h) (Or.inl ⟨by rfl, ?_⟩) (by assumption) ?_
        rotate_left
        · (intro w hSw; obtain ⟨⟨q0, q1⟩, q2, q3⟩ := hSw; go_simp; (try with_reducible rfl))
        (try simp only [List.getElem_toArray, List.getElem_cons_zero, List.getElem_cons_succ, Act.put, List.setIfInBounds_toArray, List.set_cons_zero, List.set_cons_succ])
        refine wpAnyH_take (i := 15) (v := ?_) rfl (by kernel_rfl) (by kernel_rfl) (by kernel_rfl) (fun _ _ _ h => h) (Or.inl ⟨by rfl, ?_⟩) (by assumption) ?_
        rotate_left
        · (intro w hSw; obtain ⟨⟨q0, q1⟩, q2, q3⟩ := hSw; go_simp; (try with_reducible rfl))
        (try simp only [List.getElem_toArray, List.getElem_cons_zero, List.getElem_cons_succ, Act.put, List.setIfInBounds_toArray, List.set_cons_zero, List.set_cons_succ])
        have T9 := Lib.hid (K3.out.step hbx)
        have K5 := Lib.hid (T9.out.set (A' := A5) (c' := c5) (OKS.out.txt (Row.of_own own5)))
        obtain ⟨s0, s1⟩ := txt_cells T9.out.t3
        have s2 := T9.out.t3.frozen 0
        have s3 := T9.out.t3.frozen 1
        obtain ⟨f0, f1⟩ := KS.out _ hbx
        refine wpAnyH_ready (rs := [16]) (by kernel_rfl) (by simp) ?_
        refine AllReadyH.cons rfl (fun K hK => ?_) AllReadyH.nil
        go_simp
        refine hK.out _ _ (show _ from ⟨txt_cells (setMany_far (B3.out.below hbx B3.out.lt) (Nat.ne_of_gt (Nat.lt_trans (Nat.lt_succ_self _) N3.out)) [(0, .string ⟨S5.toArray⟩), (1, .slice A5 l5.length c5)]), (cell_many_far f1.1 (by rw [add_block]; exact hne.out) [(0, .string ⟨S5.toArray⟩), (1, .slice A5 l5.length c5)]), (cell_many_far f1.2 (by show (ad.add (m * 3)).block ≠ _; rw [add_block]; exact hne.out) [(0, .string ⟨S5.toArray⟩), (1, .slice A5 l5.length c5)])⟩) (fun hHeld => ?_)
        clear hK K
        (try simp only [List.getElem_toArray, List.getElem_cons_zero, List.getElem_cons_succ, Act.put, List.setIfInBounds_toArray, List.set_cons_zero, List.set_cons_succ])
        refine wpAnyH_take (i := 17) (v := ?_) rfl (by kernel_rfl) (by kernel_rfl) (by kernel_rfl) (fun _ _ _ h => h) (Or.inl ⟨by rfl, ?_⟩) (by assumption) ?_
        rotate_left
        · (intro w hSw; obtain ⟨⟨q0, q1⟩, q2, q3⟩ := hSw; go_simp; (try with_reducible rfl))
        (try simp only [List.getElem_toArray, List.getElem_cons_zero, List.getElem_cons_succ, Act.put, List.setIfInBounds_toArray, List.set_cons_zero, List.set_cons_succ])
        refine wpAnyH_done (by kernel_rfl) ?_ _
        go_wp2_with fail
        go_meet
        exact ⟨rfl, rfl, A5, c5, K5⟩
      case rest =>
        obtain ⟨rfl, rfl, A5, c5, K6⟩ := hcut
        by_cases hn : n = 0
        · subst hn
          go_wp2_with fail
          go_roundw
          case rel => exact ⟨m, _, A5, c5, S5, l5, rfl, rfl, by omega, HST.out, K6⟩
          case measure => simp [intOf]
        · have hn2 : ((n : Int) != 0) = true := by rw [bne_iff_ne]; omega
          have HV2 : Hid (((([], []) : TP), n) = v) := by
            show _ = _
            rw [← HV.out]
            exact (HER.out n (by rw [HST.out]) hn (by rw [HST.out]; exact HSE.out hn)).symm
          obtain ⟨z0, z1⟩ := txt_cells K6.out.res
          have z2 := K6.out.res.frozen 0
          have z3 := K6.out.res.frozen 1
          go_wp2_with fail
          exact end_txt (A := none) (c := 0) (S := []) (l := []) rfl _ K6.out.res K6.out.bel (by omega) (.inl rfl) rfl rfl rfl HV2.out (fun _ _ h => h)
end Go.Proofs.YtgpmfkedcoiopaaGreatDoor

/-
  The landed rework: the edit that an operator makes of whole lines: layer 14.
-/
namespace Go.Proofs.YtgpmfkedcoiopaaGreatDoor
open Go.RowKit
set_option maxRecDepth 100000

theorem good_runs {S : List UInt8} {l : List RunP} (hg : goodT S l = true) : l.length ≤ 4096 := by
  have h1 := goodT_size hg
  have h2 := goodB_eq ((goodT_iff S l).1 hg).1
  have h3 := pack_len (bytesOf l)
  rw [h2] at h3
  omega
theorem ord_le {n : Nat} : ∀ {L : List ChP} {p : Nat}, OrdC n p L → ∀ c ∈ L, c.f ≤ n ∧ c.t ≤ n
  | d :: L, p, h, c, hc => by
    have h1 := h.2.2.le
    have h2 := h.2.1
    rcases List.mem_cons.1 hc with rfl | hc
    · exact ⟨by omega, h1⟩
    · exact ord_le h.2.2 c hc
theorem chsL_len {op : Int} : ∀ (r : List (List UInt8)) (p n : Nat), (chsL op p n r).length ≤ r.length
  | [], _, _ => Nat.le_refl _
  | x :: r, p, n => by
    have ih := chsL_len (op := op) r (p + x.length + 1) (n + 1)
    have h : (chP op p n x).length ≤ 1 := by
      unfold chP
      by_cases h1 : op = 62 ∧ x ≠ []
      · rw [if_pos h1]; exact Nat.le_refl _
      rw [if_neg h1]
      by_cases h2 : op = 60 ∧ 0 < inB x
      · rw [if_pos h2]; exact Nat.le_refl _
      rw [if_neg h2]
      by_cases h3 : op = 74 ∧ 0 < n ∧ inB x = x.length
      · rw [if_pos h3]; exact Nat.le_refl _
      rw [if_neg h3]
      by_cases h4 : op = 74 ∧ 0 < n
      · rw [if_pos h4]; exact Nat.le_refl _
      · rw [if_neg h4]; exact Nat.zero_le _
    show (chP op p n x ++ chsL op (p + x.length + 1) (n + 1) r).length ≤ _
    rw [List.length_append, List.length_cons]; omega
theorem chgT_ok {y : Nat} (hy : y < 18446744073709551616) {S : List UInt8} {l : List RunP} (h : OkT ((S, l), 0)) : ∀ L : List ChP, OkT (chgT y S l L)
  | [] => h
  | c :: L => by
    have ih := chgT_ok hy h L
    show OkT (if (chgT y S l L).2 = 0 then spliceT (chgT y S l L).1.1 (chgT y S l L).1.2 (c.f : Nat) (c.t : Nat) (makeOf c.put y).1.1 (makeOf c.put y).1.2 else (([], []), (chgT y S l L).2))
    split
    · exact okT_splice ih.2.1 (okT_make c.put y hy).2.1 _ _
    · exact okT_nil _
theorem chgT_good {y : Nat} {S : List UInt8} {l : List RunP} (h : goodT S l = true) : ∀ L : List ChP, (chgT y S l L).2 = 0 → goodT (chgT y S l L).1.1 (chgT y S l L).1.2 = true
  | [], _ => h
  | c :: L, h0 => by
    have e : chgT y S l (c :: L) = if (chgT y S l L).2 = 0 then spliceT (chgT y S l L).1.1 (chgT y S l L).1.2 (c.f : Nat) (c.t : Nat) (makeOf c.put y).1.1 (makeOf c.put y).1.2 else (([], []), (chgT y S l L).2) := rfl
    rw [e] at h0 ⊢
    split at h0
    · next hn => rw [if_pos hn]; exact splice_good h0
    · next hn => exact absurd h0 hn
theorem cell_tmp3O {fn : Func} {p q r u : Tmp} {ty : TypeId} (h : fn.results = #[.cell p ty, .tmp q, .tmp r, .tmp u]) (tmps : Array Value) (P : Program) (w : World) :
    (results fn tmps).run P w =
      ((asAddr (tmps.getD p undef)).run P w).andThen fun a w₁ => ((loadVar ty a).run P w₁).andThen fun v w₂ => .ok (.tuple #[v, tmps.getD q undef, tmps.getD r undef, tmps.getD u undef]) w₂ := by
  simp only [results, h]
  simp [Sem.run_bind, Result.andThen]
theorem ret_edit4 {fn : Func} {p q2 q3 u : Tmp} (h : fn.results = #[.cell p 41, .tmp q2, .tmp q3, .tmp u]) (a : Act) (w : World) (g : Nat) (q r s t v : Value) (hp : a.tmps.getD p undef = .pointer (some ⟨g, 0, none⟩)) (hg : Blk w g 41 #[q, r, s, t, v]) (hd : a.defers = [])
    {Q : Ending → World → Prop} (hQ : Q (.returned (.tuple #[.agg #[q, r, s, t, v], a.tmps.getD q2 undef, a.tmps.getD q3 undef, a.tmps.getD u undef])) w) : bodyPost Tryz.prog fn Q .ret a w := by
  obtain ⟨⟨fs, hu⟩, hi⟩ := edit_facts
  refine bodyPost_ret (v := .tuple #[.agg #[q, r, s, t, v], a.tmps.getD q2 undef, a.tmps.getD q3 undef, a.tmps.getD u undef]) ?_ hd hQ
  have hp' : a.tmps[p]?.getD undef = .pointer (some ⟨g, 0, none⟩) := by simpa using hp
  rw [cell_tmp3O h]
  simp [hp', asAddr, run_loadVar_row w g 41 41 #[q, r, s, t, v] (0, 0) _ hg hu rfl hi]
def GivesRW (w : World) (r : ((EdP × List UInt8) × List ChP) × Nat) (e : Ending) (w' : World) : Prop :=
  ∃ A c A2 d B k, e = .returned (.tuple #[.agg #[.int .i64 r.1.1.1.a, .string ⟨r.1.1.1.S.toArray⟩, .slice A r.1.1.1.l.length c, .string ⟨r.1.1.1.X.toArray⟩, .slice A2 r.1.1.1.m.length d], .string ⟨r.1.1.2.toArray⟩, .slice B r.1.2.length k, .int .i64 (r.2 : Nat)]) ∧ Row w' w'.heap.size A (flatR r.1.1.1.l) ∧ Row w' w'.heap.size A2 (flatR r.1.1.1.m) ∧ Row w' w'.heap.size B (flatC r.1.2) ∧ Below w.heap.size w w'
/-- the changes of lines a to b, and the text behind them -/
def rewL (V : List UInt8) (op : Int) (a b : Nat) : List ChP := chsL op 0 0 (linesOf ((V.drop (begL V a)).take (endL V b - begL V a)))
def rewT (S : List UInt8) (l : List RunP) (V : List UInt8) (y : Nat) (op : Int) (a b : Nat) : TP × Nat := chgT y ((S.drop (begL V a)).take (endL V b - begL V a)) (pack (((bytesOf l).drop (begL V a)).take (endL V b - begL V a))) (rewL V op a b)
def rewM (S : List UInt8) (l : List RunP) (V : List UInt8) (y : Nat) (op : Int) (a b : Nat) : ((EdP × List UInt8) × List ChP) × Nat :=
  if countL V ≤ b then (((edit0, []), []), 6)
  else if (rewT S l V y op a b).2 = 0 then (((turnedM S l y (begL V a : Nat) (endL V b : Nat) (rewT S l V y op a b).1.1 (rewT S l V y op a b).1.2 true).1, rewL V op a b), (turnedM S l y (begL V a : Nat) (endL V b : Nat) (rewT S l V y op a b).1.1 (rewT S l V y op a b).1.2 true).2)
  else (((edit0, []), []), (rewT S l V y op a b).2)
theorem RowN.far {w : World} {g k : Nat} {A : Option Addr} {xs : List Value} (h : RowN w g A xs) (hk : RowN w k A xs) (i : Nat) (u : Value) : RowN (w.setCell ⟨k, i, none⟩ u) g A xs := by
  rcases h with h | ⟨ad, e, hn, hb, hc⟩
  · exact .inl h
  · rcases hk with hk | ⟨ad', e', hn', _, _⟩
    · exact .inl hk
    · rw [e] at e'
      injection e' with e'
      subst e'
      refine .inr ⟨ad, e, hn, by simpa using hb, fun j v hj => ?_⟩
      rw [World.cell?_of_block (heap_setCell_other _ ⟨k, i, none⟩ _ _ (by rw [add_block]; exact hn'))]
      exact hc j v hj
theorem rowN_two {w : World} {g k : Nat} {A : Option Addr} {xs : List Value} (h : RowN w g A xs) (hk : RowN w k A xs) (u v : Value) : RowN ((w.setCell ⟨k, 0, none⟩ u).setCell ⟨k, 1, none⟩ v) g A xs :=
  (h.far hk 0 u).far (hk.set 0 u) 1 v
/-- what is kept in rework -/
structure RewK (w wr : World) (A : Option Addr) (c : Nat) (S : List UInt8) (l : List RunP) (y : Nat) (V : List UInt8) : Prop where
  si : Blk wr w.heap.size 89 #[.string ⟨S.toArray⟩, .slice A l.length c, .int .u64 (y : Nat), .string ⟨V.toArray⟩]
  res : Blk wr (w.heap.size + 1) 41 #[.int .i64 0, .string ⟨#[]⟩, .slice none 0 0, .string ⟨#[]⟩, .slice none 0 0]
  bel : Below w.heap.size w wr
  tS : Txu wr A S l
section
variable {w wr w' : World} {A : Option Addr} {c : Nat} {S : List UInt8} {l : List RunP} {y : Nat} {V : List UInt8}
theorem RewK.step (h : RewK w wr A c S l y V) (hb : Below wr.heap.size wr w') : RewK w w' A c S l y V :=
  ⟨h.si.below hb h.si.lt, h.res.below hb h.res.lt, h.bel.trans (hb.mono h.bel.size), grow_txu h.tS _ hb⟩
theorem RewK.many (h : RewK w wr A c S l y V) {g T : Nat} {cs : Array Value} (hg : Blk wr g T cs) (hn : NoLab cs) (hlow : w.heap.size + 1 < g) (us : List (Nat × Value)) : RewK w (setMany wr g us) A c S l y V :=
  ⟨setMany_far h.si (by omega) us, setMany_far h.res (by omega) us, setMany_below h.bel (by omega) us, setMany_txu h.tS hg hn us⟩
end
theorem rew_zero {fn : Func} {p q2 q3 u : Tmp} (h : fn.results = #[.cell p 41, .tmp q2, .tmp q3, .tmp u]) (act : Act) {w wr : World} {g : Nat} {v0 v1 v2 v3 v4 : Value} (hres : Blk wr g 41 #[v0, v1, v2, v3, v4]) (hb : Below w.heap.size w wr) (hg : w.heap.size ≤ g) {n : Nat} (hp : act.tmps.getD p undef = .pointer (some ⟨g, 0, none⟩)) (h2 : act.tmps.getD q2 undef = .string ⟨#[]⟩) (h3 : act.tmps.getD q3 undef = .slice none 0 0) (hu : act.tmps.getD u undef = .int .i64 (n : Nat)) (hd : act.defers = [])
    {v : ((EdP × List UInt8) × List ChP) × Nat} (hv : (((edit0, []), []), n) = v) {Q : Ending → World → Prop} (hQ : ∀ e w', GivesRW w v e w' → Q e w') :
    bodyPost Tryz.prog fn Q .ret act (((((wr.setCell ⟨g, 0, none⟩ (.int .i64 0)).setCell ⟨g, 1, none⟩ (.string ⟨#[]⟩)).setCell ⟨g, 2, none⟩ (.slice none 0 0)).setCell ⟨g, 3, none⟩ (.string ⟨#[]⟩)).setCell ⟨g, 4, none⟩ (.slice none 0 0)) := by
  have E := edit_end (A := none) (A2 := none) (l := []) (m := []) (s := ⟨#[]⟩) (x := ⟨#[]⟩) 0 hb hres hg (.inl rfl) (.inl rfl) (.slice none 0 0) (.slice none 0 0)
  refine ret_edit4 h _ _ g _ _ _ _ _ hp E.1 hd (hQ _ _ ?_)
  rw [h2, h3, hu, ← hv]
  exact ⟨none, 0, none, 0, none, 0, rfl, E.2.1, E.2.2.1, .inl rfl, E.2.2.2⟩
set_option maxHeartbeats 8000000 in
theorem oxRework_any (A : Option Addr) (c : Nat) (S : List UInt8) (l : List RunP) (y : Nat) (hy : y < 18446744073709551616) (V : List UInt8) (hg : goodT S l = true) (hVS : V.length = S.length) (op : Int) (hop : op = 62 ∨ op = 60 ∨ op = 74) (a b : Nat) (ha : a < countL V) (hab : a ≤ b) (_hb : b ≤ 1000000) (w : World) (h : Txu w A S l) :
    Calls Tryz.prog 104 #[.agg #[.string ⟨S.toArray⟩, .slice A l.length c, .int .u64 (y : Nat), .string ⟨V.toArray⟩], .int .i32 op, .int .i64 (a : Nat), .int .i64 (b : Nat)] w (GivesRW w (rewM S l V y op a b)) := by
  obtain ⟨v, hv⟩ : ∃ v, rewM S l V y op a b = v := ⟨_, rfl⟩
  rw [hv]
  have hV : V.length ≤ 4096 := by have := goodT_size hg; omega
  have HBA := Lib.hid (fun wx => linBounds_any V (by omega) (a : Nat) wx)
  have HBB := Lib.hid (fun wx => linBounds_any V (by omega) (b : Nat) wx)
  rw [boundsL_nat ha] at HBA
  have K0 : Hid (RewK w ((w.alloc (.cells #[.string ⟨S.toArray⟩, .slice A l.length c, .int .u64 (y : Nat), .string ⟨V.toArray⟩] 89)).alloc (.cells #[.int .i64 0, .string ⟨#[]⟩, .slice none 0 0, .string ⟨#[]⟩, .slice none 0 0] 41)) A c S l y V) := by
    have BX := boxesE2 w 89 41 #[.string ⟨S.toArray⟩, .slice A l.length c, .int .u64 (y : Nat), .string ⟨V.toArray⟩] #[.int .i64 0, .string ⟨#[]⟩, .slice none 0 0, .string ⟨#[]⟩, .slice none 0 0]
    exact ⟨BX.now.1, BX.now.2.1, BX.now.2.2, grow_txu h _ BX.now.2.2⟩
  have FS := Lib.hid h.hf
  clear h
  unfold rewM at hv
  by_cases hbc : countL V ≤ b
  · rw [if_pos hbc] at hv
    rw [boundsL_out (n := (b : Nat)) (by omega)] at HBB
    have HV := Lib.hid hv
    have HVS := Lib.hid hVS
    clear hv hbc ha hVS
    generalize begL V a = F at *
    generalize endL V a = F2 at *
    go_enter Tryz.func104, Tryz.ntmps104
    go_upto_region 1 with fail
    generalize (w.alloc (.cells #[.string ⟨S.toArray⟩, .slice A l.length c, .int .u64 (y : Nat), .string ⟨V.toArray⟩] 89)).alloc (.cells #[.int .i64 0, .string ⟨#[]⟩, .slice none 0 0, .string ⟨#[]⟩, .slice none 0 0] 41) = wx at *
    obtain ⟨⟨y0, y1, y2, y3⟩, _⟩ := si_cells K0.out.si
    go_wp2_with (first
      | (go_at_call 64; refine use_factO b1 ?_; intro _; refine (HBB.out _).mono ?_; rintro e w2 ⟨rfl, b2⟩; have K2 := Lib.hid (K1.out.step b2); clear y0 y1 y2 y3; obtain ⟨⟨u0, u1, u2, u3, u4⟩, u5, u6, u7, u8, u9⟩ := ed_var K2.out.res)
      | (go_at_call 64; refine (HBA.out _).mono ?_; rintro e w1 ⟨rfl, b1⟩; have K1 := Lib.hid (K0.out.step b1); clear y0 y1 y2 y3; obtain ⟨⟨y0, y1, y2, y3⟩, _⟩ := si_cells K1.out.si))
    exact rew_zero rfl _ K2.out.res K2.out.bel (by omega) rfl rfl rfl rfl rfl HV.out (fun _ _ h => h)
  · have hbl : b < countL V := by omega
    rw [if_neg hbc] at hv
    rw [boundsL_nat hbl] at HBB
    obtain ⟨h1, h2, h3, h4, h5⟩ := cut_lens hg hVS hab hbl
    have hVl : ((V.drop (begL V a)).take (endL V b - begL V a)).length = endL V b - begL V a := by rw [List.length_take, List.length_drop]; omega
    have hcut := (cut_goodO hg h1 h2)
    have hord : OrdC (endL V b - begL V a) 0 (rewL V op a b) := by
      have htl := tot_lines ((V.drop (begL V a)).take (endL V b - begL V a))
      unfold rewL
      rcases Classical.em (op = 74) with h74 | h74
      · subst h74
        cases hx : linesOf ((V.drop (begL V a)).take (endL V b - begL V a)) with
        | nil => exact absurd hx (linesOf_ne _)
        | cons x r => rw [hx] at htl; exact (ord_join0 (by omega)).less (Nat.zero_le _)
      · exact ord_shift h74 _ _ _ (Nat.zero_le _) (by omega)
    have hput : ∀ g ∈ rewL V op a b, g.put.length ≤ 4096 ∧ g.f ≤ 1000000 ∧ g.t ≤ 1000000 := fun g hgm => by
      have p1 := (chsL_put (op := op) _ 0 0 (fun h => absurd h (by decide)) g hgm).1
      have p2 := ord_le hord g hgm
      omega
    have hLl : (rewL V op a b).length ≤ 1000000 := by
      have q1 := chsL_len (op := op) (linesOf ((V.drop (begL V a)).take (endL V b - begL V a))) 0 0
      have q2 := linesOf_count ((V.drop (begL V a)).take (endL V b - begL V a))
      have q3 := countL_le ((V.drop (begL V a)).take (endL V b - begL V a))
      unfold rewL
      omega
    have HCH := Lib.hid (fun wx => oxChanges_any ((V.drop (begL V a)).take (endL V b - begL V a)) (by omega) op hop wx)
    have HSL : Hid (({ data := V.toArray } : ByteArray).extract (begL V a) (endL V b) = ⟨((V.drop (begL V a)).take (endL V b - begL V a)).toArray⟩) := text_cut _ _ _
    have okc := okT_cut (S := S) (l := l) FS.out (begL V a : Nat) (endL V b : Nat)
    rw [hcut.1] at okc
    have hrT : rewT S l V y op a b = chgT y ((S.drop (begL V a)).take (endL V b - begL V a)) (pack (((bytesOf l).drop (begL V a)).take (endL V b - begL V a))) (rewL V op a b) := rfl
    have okr := chgT_ok hy (S := (S.drop (begL V a)).take (endL V b - begL V a)) (l := pack (((bytesOf l).drop (begL V a)).take (endL V b - begL V a))) okc (rewL V op a b)
    have gdr := chgT_good (y := y) hcut.2 (rewL V op a b)
    rw [← hrT] at okr gdr
    have hrl : rewL V op a b = chsL op 0 0 (linesOf ((V.drop (begL V a)).take (endL V b - begL V a))) := rfl
    rw [← hrl] at HCH
    obtain ⟨L, hL⟩ : ∃ L, rewL V op a b = L := ⟨_, rfl⟩
    rw [hL] at hput hLl HCH hrT hv
    obtain ⟨rt, hrt⟩ : ∃ rt, rewT S l V y op a b = rt := ⟨_, rfl⟩
    rw [hrt] at okr gdr hrT hv
    obtain ⟨xl, hxl⟩ : ∃ xl, pack (((bytesOf l).drop (begL V a)).take (endL V b - begL V a)) = xl := ⟨_, rfl⟩
    obtain ⟨XS, hXS⟩ : ∃ XS, (S.drop (begL V a)).take (endL V b - begL V a) = XS := ⟨_, rfl⟩
    rw [hxl, hXS] at okc hcut hrT
    have HCUT := Lib.hid hcut.1
    have OKC := Lib.hid okc
    have OKR := Lib.hid okr
    have GDR := Lib.hid gdr
    have HRT := Lib.hid hrT.symm
    have HV := Lib.hid hv
    have HPUT := Lib.hid hput
    obtain ⟨U, hU⟩ : ∃ U, (V.drop (begL V a)).take (endL V b - begL V a) = U := ⟨_, rfl⟩
    rw [hU] at HSL HCH
    have x1 : (0 : Int) ≤ ((begL V a : Nat) : Int) := by omega
    have x2 : ((begL V a : Nat) : Int) ≤ ((endL V b : Nat) : Int) := by omega
    have x3 : ((endL V b : Nat) : Int) ≤ (V.length : Int) := by omega
    clear hcut okc okr gdr hrT hv hput hord hVl h3 h4 h5 hrl hL hrt hxl hXS hU hbc hVS
    generalize begL V a = F at *
    generalize endL V a = F2 at *
    generalize endL V b = E at *
    generalize begL V b = E2 at *
    obtain ⟨⟨RS, rl⟩, rn⟩ := rt
    go_enter Tryz.func104, Tryz.ntmps104
    go_upto_region 1 with fail
    generalize (w.alloc (.cells #[.string ⟨S.toArray⟩, .slice A l.length c, .int .u64 (y : Nat), .string ⟨V.toArray⟩] 89)).alloc (.cells #[.int .i64 0, .string ⟨#[]⟩, .slice none 0 0, .string ⟨#[]⟩, .slice none 0 0] 41) = wx at *
    obtain ⟨⟨y0, y1, y2, y3⟩, _⟩ := si_cells K0.out.si
    go_upto_region 5 with (first
      | (go_at_call 64; refine use_factO b1 ?_; intro _; refine (HBB.out _).mono ?_; rintro e w2 ⟨rfl, b2⟩; have K2 := Lib.hid (K1.out.step b2); clear y0 y1 y2 y3; obtain ⟨⟨y0, y1, y2, y3⟩, _⟩ := si_cells K2.out.si)
      | (go_at_call 64; refine (HBA.out _).mono ?_; rintro e w1 ⟨rfl, b1⟩; have K1 := Lib.hid (K0.out.step b1); clear y0 y1 y2 y3; obtain ⟨⟨y0, y1, y2, y3⟩, _⟩ := si_cells K1.out.si))
    go_upto_region 6 with (go_at_call 37; refine (stpCut_any A c _ S l (F : Nat) (E : Nat) _ (Nat.le_refl _) K2.out.tS).mono ?_; rw [HCUT.out]; rintro e w3 ⟨A3, c3, rfl, own, bb⟩; dsimp only at own ⊢; have K3 := Lib.hid ((K2.out.step bb).step ((Below.refl _ _).alloc (Nat.le_refl _) (.cells #[.string ⟨XS.toArray⟩, .slice A3 xl.length c3] 32))); have R3 := Lib.hid (row_step (Row.of_own own) ((Below.refl _ _).alloc (Nat.le_refl _) (.cells #[.string ⟨XS.toArray⟩, .slice A3 xl.length c3] 32))); have B3 := Lib.hid (Blk.new w3 32 #[.string ⟨XS.toArray⟩, .slice A3 xl.length c3]); have N3 : Hid (w.heap.size + 1 < w3.heap.size) := (K2.out.step bb).res.lt; clear y0 y1 y2 y3 bb own)
    generalize hg18 : w3.heap.size = g18 at *
    generalize w3.alloc (.cells #[.string ⟨XS.toArray⟩, .slice A3 xl.length c3] 32) = w4 at *
    clear hg18 K0 K1 K2
    obtain ⟨⟨y0, y1, y2, y3⟩, _⟩ := si_cells K3.out.si
    have N4 : Hid (g18 < w4.heap.size) := B3.out.lt
    go_upto_region 9 with (go_at_call 156; rw [HSL.out]; refine (HCH.out _).mono ?_; rintro e w5 ⟨A5, c5, rfl, own, bb⟩; have K5 := Lib.hid (K3.out.step bb); have R5 := Lib.hid (row_step R3.out bb); have B5 := Lib.hid (B3.out.below bb B3.out.lt); have L5 := Lib.hid (Row.of_own own); have NA5 := Lib.hid (rowN_own (g := w.heap.size + 1) own (Nat.lt_trans N3.out N4.out)); have NB5 := Lib.hid (rowN_own (g := g18) own N4.out); clear y0 y1 y2 y3 bb own)
    obtain ⟨⟨y0, y1, y2, y3⟩, _⟩ := si_cells K5.out.si
    obtain ⟨x4, x5⟩ := txt_cells B5.out
    clear K3 R3 B3
    go_upto_region 10 with (go_at_call 157; refine (oxChanged_any A3 A5 c3 c5 XS xl y hy L HPUT.out hLl _ (OKC.out.txt R5.out) L5.out).mono ?_; rw [HRT.out]; rintro e w6 ⟨A6, c6, rfl, r6, bb⟩; dsimp only at r6 ⊢; have K6 := Lib.hid (K5.out.step bb); have R6 := Lib.hid r6; have B6 := Lib.hid (B5.out.below bb B5.out.lt); have NA6 := Lib.hid (grow_rowN NA5.out _ bb); have NB6 := Lib.hid (grow_rowN NB5.out _ bb); clear y0 y1 y2 y3 x4 x5 bb r6; obtain ⟨x4, x5⟩ := txt_cells B6.out; have x6 := B6.out.frozen 0; have x7 := B6.out.frozen 1)
    have K7 : Hid (RewK w ((w6.setCell ⟨g18, 0, none⟩ (.string ⟨RS.toArray⟩)).setCell ⟨g18, 1, none⟩ (.slice A6 rl.length c6)) A c S l y V) := K6.out.many B6.out noLab_txt N3.out [(0, .string ⟨RS.toArray⟩), (1, .slice A6 rl.length c6)]
    have R7 : Hid (Row ((w6.setCell ⟨g18, 0, none⟩ (.string ⟨RS.toArray⟩)).setCell ⟨g18, 1, none⟩ (.slice A6 rl.length c6)) ((w6.setCell ⟨g18, 0, none⟩ (.string ⟨RS.toArray⟩)).setCell ⟨g18, 1, none⟩ (.slice A6 rl.length c6)).heap.size A6 (flatR rl)) := row_many R6.out B6.out noLab_txt [(0, .string ⟨RS.toArray⟩), (1, .slice A6 rl.length c6)]
    have B7 : Hid (Blk ((w6.setCell ⟨g18, 0, none⟩ (.string ⟨RS.toArray⟩)).setCell ⟨g18, 1, none⟩ (.slice A6 rl.length c6)) g18 32 #[.string ⟨RS.toArray⟩, .slice A6 rl.length c6]) := blk_two B6.out _ _
    have NA7 : Hid (RowN ((w6.setCell ⟨g18, 0, none⟩ (.string ⟨RS.toArray⟩)).setCell ⟨g18, 1, none⟩ (.slice A6 rl.length c6)) (w.heap.size + 1) A5 (flatC L)) := rowN_two NA6.out NB6.out _ _
    generalize (w6.setCell ⟨g18, 0, none⟩ (.string ⟨RS.toArray⟩)).setCell ⟨g18, 1, none⟩ (.slice A6 rl.length c6) = w7 at *
    clear x4 x5 x6 x7 K5 R5 B5 L5 NA5 NB5 K6 R6 B6 NA6 NB6
    by_cases hrn : rn = 0
    · subst hrn
      have HV2 := Lib.hid ((if_pos rfl).symm.trans HV.out)
      have gr := good_runs (GDR.out rfl)
      (try dsimp only at gr)
      (try dsimp only at HV2)
      obtain ⟨tm, htm⟩ : ∃ tm, turnedM S l y (F : Nat) (E : Nat) RS rl true = tm := ⟨_, rfl⟩
      rw [htm] at HV2
      have HTM := Lib.hid htm
      clear htm
      obtain ⟨⟨⟨ea, ES, el, EX, em⟩, W⟩, n⟩ := tm
      dsimp only at HV2
      obtain ⟨⟨y0, y1, y2, y3⟩, _⟩ := si_cells K7.out.si
      obtain ⟨x4, x5⟩ := txt_cells B7.out
      go_upto_region 13 with (go_at_call 69; refine (oxRepl_any A A6 c c6 S l y hy V (F : Nat) (E : Nat) RS rl (by omega) _ K7.out.tS (OKR.out.txt R7.out)).mono ?_; rw [HTM.out]; rintro ee w8 ⟨A4, c4, B4, d4, rfl, rA, rB, bb⟩; dsimp only at rA rB ⊢; have K8 := Lib.hid ((K7.out.step bb).step ((Below.refl _ _).alloc (Nat.le_refl _) (.cells #[.int .i64 ea, .string ⟨ES.toArray⟩, .slice A4 el.length c4, .string ⟨EX.toArray⟩, .slice B4 em.length d4] 41))); have NA8 := Lib.hid (grow_rowN (grow_rowN NA7.out _ bb) _ ((Below.refl _ _).alloc (Nat.le_refl _) (.cells #[.int .i64 ea, .string ⟨ES.toArray⟩, .slice A4 el.length c4, .string ⟨EX.toArray⟩, .slice B4 em.length d4] 41))); have RA := Lib.hid (row_step rA ((Below.refl _ _).alloc (Nat.le_refl _) (.cells #[.int .i64 ea, .string ⟨ES.toArray⟩, .slice A4 el.length c4, .string ⟨EX.toArray⟩, .slice B4 em.length d4] 41))); have RB := Lib.hid (row_step rB ((Below.refl _ _).alloc (Nat.le_refl _) (.cells #[.int .i64 ea, .string ⟨ES.toArray⟩, .slice A4 el.length c4, .string ⟨EX.toArray⟩, .slice B4 em.length d4] 41))); have V8 := Lib.hid (Blk.new w8 41 #[.int .i64 ea, .string ⟨ES.toArray⟩, .slice A4 el.length c4, .string ⟨EX.toArray⟩, .slice B4 em.length d4]); clear rA rB bb y0 y1 y2 y3 x4 x5)
      generalize hg20 : w8.heap.size = g20 at *
      generalize w8.alloc (.cells #[.int .i64 ea, .string ⟨ES.toArray⟩, .slice A4 el.length c4, .string ⟨EX.toArray⟩, .slice B4 em.length d4] 41) = w9 at *
      clear hg20 K7 R7 B7 NA7
      obtain ⟨e0, e1, e2, e3, e4⟩ := ed_cells V8.out
      obtain ⟨⟨u0, u1, u2, u3, u4⟩, u5, u6, u7, u8, u9⟩ := ed_var K8.out.res
      go_wp2_with fail
      have E9 := edit_end (A := A4) (A2 := B4) (l := el) (m := em) (s := ⟨ES.toArray⟩) (x := ⟨EX.toArray⟩) ea K8.out.bel K8.out.res (by omega) (rowN_noLab RA.out (Nat.le_refl _) K8.out.res (noLab_edit _ _ _ _ _ _ _ _ _)) (rowN_noLab RB.out (Nat.le_refl _) K8.out.res (noLab_edit _ _ _ _ _ _ _ _ _)) (.slice A4 el.length c4) (.slice B4 em.length d4)
      have N9 := (((((NA8.out.set 0 (.int .i64 ea)).set 1 (.string ⟨ES.toArray⟩)).set 2 (.slice A4 el.length c4)).set 3 (.string ⟨EX.toArray⟩)).set 4 (.slice B4 em.length d4)).row
      refine ret_edit4 rfl _ _ (w.heap.size + 1) _ _ _ _ _ rfl E9.1 rfl ?_
      rw [← HV2.out]
      exact ⟨A4, c4, B4, d4, A5, c5, rfl, E9.2.1, E9.2.2.1, N9, E9.2.2.2⟩
    · have HV2 := Lib.hid ((if_neg hrn).symm.trans HV.out)
      (try dsimp only at HV2)
      have hn2 : ((rn : Int) != 0) = true := by rw [bne_iff_ne]; omega
      obtain ⟨⟨u0, u1, u2, u3, u4⟩, u5, u6, u7, u8, u9⟩ := ed_var K7.out.res
      go_wp2_with fail
      exact rew_zero rfl _ K7.out.res K7.out.bel (by omega) rfl rfl rfl rfl rfl HV2.out (fun _ _ h => h)
end Go.Proofs.YtgpmfkedcoiopaaGreatDoor

/-
  The landed shift and join: > and < and J: layer 14.
-/
namespace Go.Proofs.YtgpmfkedcoiopaaGreatDoor
open Go.RowKit
set_option maxRecDepth 100000

def shfM (S : List UInt8) (l : List RunP) (V : List UInt8) (y : Nat) (op : Int) (a b : Nat) : OutP × Nat :=
  if (rewM S l V y op a b).2 = 0 then (⟨(rewM S l V y op a b).1.1.1, [], [], false, false, (firstL (rewM S l V y op a b).1.1.2 (a : Nat) : Nat)⟩, 0) else (out0, (rewM S l V y op a b).2)
theorem rew_view (S : List UInt8) (l : List RunP) (V : List UInt8) (y : Nat) (op : Int) (a b : Nat) : (rewM S l V y op a b).1.1.2.length ≤ 4096 := by
  unfold rewM
  split
  · exact Nat.zero_le _
  · split
    · exact turned_view _ _ _ _ _ _ _ _
    · exact Nat.zero_le _
set_option maxHeartbeats 8000000 in
theorem oxShift_any (A : Option Addr) (c : Nat) (S : List UInt8) (l : List RunP) (y : Nat) (hy : y < 18446744073709551616) (V : List UInt8) (hg : goodT S l = true) (hVS : V.length = S.length) (op : Int) (hop : op = 62 ∨ op = 60 ∨ op = 74) (a b : Nat) (ha : a < countL V) (hab : a ≤ b) (hb : b ≤ 1000000) (w : World) (h : Txu w A S l) :
    Calls Tryz.prog 53 #[.agg #[.string ⟨S.toArray⟩, .slice A l.length c, .int .u64 (y : Nat), .string ⟨V.toArray⟩], .int .i32 op, .int .i64 (a : Nat), .int .i64 (b : Nat)] w (GivesO w (shfM S l V y op a b)) := by
  have HRW := Lib.hid (fun wx (hx : Txu wx A S l) => oxRework_any A c S l y hy V hg hVS op hop a b ha hab hb wx hx)
  have hvl := rew_view S l V y op a b
  obtain ⟨v, hv⟩ : ∃ v, shfM S l V y op a b = v := ⟨_, rfl⟩
  rw [hv]
  unfold shfM at hv
  generalize rewM S l V y op a b = r at *
  obtain ⟨⟨⟨⟨ea, ES, el, EX, em⟩, W⟩, L⟩, n⟩ := r
  dsimp only at hvl hv
  have HFI := Lib.hid (fun wx => linFirst_any W (by omega) (a : Nat) wx)
  obtain ⟨fi, hfi⟩ : ∃ fi, firstL W (a : Nat) = fi := ⟨_, rfl⟩
  rw [hfi] at hv HFI
  have HV := Lib.hid hv
  clear hv hfi hvl
  have K0 : Hid (SiK w _ _ A c S l y V) := SiK.start h
  clear h hVS hg ha hab
  go_enter Tryz.func53, Tryz.ntmps53
  go_upto_region 1 with fail
  generalize (w.alloc (.cells #[.string ⟨S.toArray⟩, .slice A l.length c, .int .u64 (y : Nat), .string ⟨V.toArray⟩] 89)).alloc (.cells #[.int .i64 0, .string ⟨#[]⟩, .slice none 0 0, .string ⟨#[]⟩, .slice none 0 0, .string ⟨#[]⟩, .slice none 0 0, .bool false, .bool false, .int .i64 0] 43) = wx at *
  obtain ⟨⟨y0, y1, y2, y3⟩, _⟩ := si_cells K0.out.si
  go_upto_region 2 with (go_at_call 104; refine (HRW.out _ K0.out.tS).mono ?_; rintro e w3 ⟨A4, c4, B4, d4, C4, e4, rfl, rA, rB, _, bb⟩; dsimp only at rA rB ⊢; have K3 := Lib.hid ((K0.out.step bb).alloc (.cells #[.int .i64 ea, .string ⟨ES.toArray⟩, .slice A4 el.length c4, .string ⟨EX.toArray⟩, .slice B4 em.length d4] 41)); have RA := Lib.hid (row_step rA ((Below.refl _ _).alloc (Nat.le_refl _) (.cells #[.int .i64 ea, .string ⟨ES.toArray⟩, .slice A4 el.length c4, .string ⟨EX.toArray⟩, .slice B4 em.length d4] 41))); have RB := Lib.hid (row_step rB ((Below.refl _ _).alloc (Nat.le_refl _) (.cells #[.int .i64 ea, .string ⟨ES.toArray⟩, .slice A4 el.length c4, .string ⟨EX.toArray⟩, .slice B4 em.length d4] 41))); have V3 := Lib.hid (Blk.new w3 41 #[.int .i64 ea, .string ⟨ES.toArray⟩, .slice A4 el.length c4, .string ⟨EX.toArray⟩, .slice B4 em.length d4]); have N3 : Hid (w.heap.size + 1 < w3.heap.size) := (K0.out.step bb).res.lt; clear rA rB bb y0 y1 y2 y3)
  generalize hg10 : w3.heap.size = g10 at *
  generalize w3.alloc (.cells #[.int .i64 ea, .string ⟨ES.toArray⟩, .slice A4 el.length c4, .string ⟨EX.toArray⟩, .slice B4 em.length d4] 41) = wb at *
  clear hg10 K0 HRW
  by_cases hn : n = 0
  · subst hn
    have HV2 := Lib.hid ((if_pos rfl).symm.trans HV.out)
    go_upto_region 4 with fail
    have hb0 : Below wb.heap.size wb wb := Below.refl _ _
    have hbz : Below wb.heap.size wb wb.drew := below_drewN hb0 1
    have KS : Hid (∀ w', Below wb.heap.size wb w' → (w'.cell? ⟨g10, 0, none⟩ = some (.int .i64 ea) ∧ w'.cell? ⟨g10, 1, none⟩ = some (.string ⟨ES.toArray⟩) ∧ w'.cell? ⟨g10, 2, none⟩ = some (.slice A4 el.length c4) ∧ w'.cell? ⟨g10, 3, none⟩ = some (.string ⟨EX.toArray⟩) ∧ w'.cell? ⟨g10, 4, none⟩ = some (.slice B4 em.length d4))) := fun w' hb => ed_cells (V3.out.below hb V3.out.lt)
    refine wp_region_held_drew (S := fun w' => (w'.cell? ⟨g10, 0, none⟩ = some (.int .i64 ea) ∧ w'.cell? ⟨g10, 1, none⟩ = some (.string ⟨ES.toArray⟩) ∧ w'.cell? ⟨g10, 2, none⟩ = some (.slice A4 el.length c4) ∧ w'.cell? ⟨g10, 3, none⟩ = some (.string ⟨EX.toArray⟩) ∧ w'.cell? ⟨g10, 4, none⟩ = some (.slice B4 em.length d4))) (by kernel_rfl) (KS.out _ hbz) (fun hHeld => ?_)
    refine wpAnyH_take (i := 0) (v := ?_) rfl (by kernel_rfl) (by kernel_rfl) (by kernel_rfl) (fun _ _ _ h => h) (Or.inl ⟨by rfl, ?_⟩) (by assumption) ?_
    rotate_left
    · (intro w hSw; obtain ⟨q0, q1, q2, q3, q4⟩ := hSw; go_simp; (try with_reducible rfl))
    (try simp only [List.getElem_toArray, List.getElem_cons_zero, Act.put, List.setIfInBounds_toArray, List.set_cons_zero, List.set_cons_succ])
    refine wpAnyH_take (i := 1) (v := ?_) rfl (by kernel_rfl) (by kernel_rfl) (by kernel_rfl) (fun _ _ _ h => h) (Or.inl ⟨by rfl, ?_⟩) (by assumption) ?_
    rotate_left
    · (intro w hSw; obtain ⟨q0, q1, q2, q3, q4⟩ := hSw; go_simp; (try with_reducible rfl))
    (try simp only [List.getElem_toArray, List.getElem_cons_zero, List.getElem_cons_succ, Act.put, List.setIfInBounds_toArray, List.set_cons_zero, List.set_cons_succ])
    refine wpAnyH_take (i := 2) (v := ?_) rfl (by kernel_rfl) (by kernel_rfl) (by kernel_rfl) (fun _ _ _ h => h) (Or.inl ⟨by rfl, ?_⟩) (by assumption) ?_
    rotate_left
    · (intro w hSw; obtain ⟨q0, q1, q2, q3, q4⟩ := hSw; go_simp; (try with_reducible rfl))
    (try simp only [List.getElem_toArray, List.getElem_cons_zero, List.getElem_cons_succ, Act.put, List.setIfInBounds_toArray, List.set_cons_zero, List.set_cons_succ])
    refine wpAnyH_ready (rs := [3]) (by kernel_rfl) (by simp) ?_
    refine AllReadyH.cons rfl (fun K hK => ?_) AllReadyH.nil
    go_simp
    refine (HFI.out _).mono ?_
    rintro ee w9 ⟨rfl, hby⟩
    have hbx : Below wb.heap.size wb w9 := hbz.trans (hby.mono hbz.size)
    (try go_wp2_with fail)
    refine hK.out _ _ (KS.out _ hbx) (fun hHeld => ?_)
    clear hK K
    (try simp only [List.getElem_toArray, List.getElem_cons_zero, List.getElem_cons_succ, Act.put, List.setIfInBounds_toArray, List.set_cons_zero, List.set_cons_succ])
    refine wpAnyH_take (i := 4) (v := ?_) rfl (by kernel_rfl) (by kernel_rfl) (by kernel_rfl) (fun _ _ _ h => h) (Or.inl ⟨by rfl, ?_⟩) (by assumption) ?_
    rotate_left
    · (intro w hSw; obtain ⟨q0, q1, q2, q3, q4⟩ := hSw; go_simp; (try with_reducible rfl))
    (try simp only [List.getElem_toArray, List.getElem_cons_zero, List.getElem_cons_succ, Act.put, List.setIfInBounds_toArray, List.set_cons_zero, List.set_cons_succ])
    have K9 := Lib.hid (K3.out.step hbx)
    have RA9 := Lib.hid (row_step RA.out hbx)
    have RB9 := Lib.hid (row_step RB.out hbx)
    obtain ⟨⟨r0, r1, r2, r3, r4, r5, r6, r7, r8, r9⟩, t0, t1, t2, t3, t4, t5, t6, t7, t8, t9⟩ := out_cells K9.out.res
    refine wpAnyH_ready (rs := [5]) (by kernel_rfl) (by simp) ?_
    refine AllReadyH.cons rfl (fun K hK => ?_) AllReadyH.nil
    go_simp
    refine hK.out _ _ (show _ from ed_cells (setMany_far (V3.out.below hbx V3.out.lt) (Nat.ne_of_gt N3.out) [(0, .int .i64 ea), (1, .string ⟨ES.toArray⟩), (2, .slice A4 el.length c4), (3, .string ⟨EX.toArray⟩), (4, .slice B4 em.length d4), (5, .string ⟨#[]⟩), (6, .slice none 0 0), (7, .bool false), (8, .bool false), (9, .int .i64 ((fi : Nat)))])) (fun hHeld => ?_)
    clear hK K
    (try simp only [List.getElem_toArray, List.getElem_cons_zero, List.getElem_cons_succ, Act.put, List.setIfInBounds_toArray, List.set_cons_zero, List.set_cons_succ])
    refine wpAnyH_take (i := 6) (v := ?_) rfl (by kernel_rfl) (by kernel_rfl) (by kernel_rfl) (fun _ _ _ h => h) (Or.inl ⟨by rfl, ?_⟩) (by assumption) ?_
    rotate_left
    · (intro w hSw; obtain ⟨q0, q1, q2, q3, q4⟩ := hSw; go_simp; (try with_reducible rfl))
    (try simp only [List.getElem_toArray, List.getElem_cons_zero, List.getElem_cons_succ, Act.put, List.setIfInBounds_toArray, List.set_cons_zero, List.set_cons_succ])
    refine wpAnyH_done (by kernel_rfl) ?_ _
    go_wp2_with fail
    exact end_out (A := A4) (B := B4) (C := none) (c := c4) (d := d4) (k := 0) (R := []) (l := el) (m := em) (q := []) rfl _ K9.out.res noLab_out K9.out.bel (Nat.le_succ _) RA9.out RB9.out (.inl rfl) rfl rfl rfl HV2.out (fun _ _ h => h)
  · have HV2 := Lib.hid ((if_neg hn).symm.trans HV.out)
    have hn2 : ((n : Int) != 0) = true := by rw [bne_iff_ne]; omega
    obtain ⟨⟨r0, r1, r2, r3, r4, r5, r6, r7, r8, r9⟩, t0, t1, t2, t3, t4, t5, t6, t7, t8, t9⟩ := out_cells K3.out.res
    go_wp2_with fail
    exact end_zero rfl _ K3.out.res noLab_out K3.out.bel (Nat.le_succ _) rfl rfl rfl HV2.out (fun _ _ h => h)
def joiM (S : List UInt8) (l : List RunP) (V : List UInt8) (y a b : Nat) : OutP × Nat :=
  if (rewM S l V y 74 a b).2 = 0 then (⟨(rewM S l V y 74 a b).1.1.1, [], [], false, false, (joAt S l V y a (b - a) : Nat)⟩, 0) else (out0, (rewM S l V y 74 a b).2)
/-- where J's last line begins, told by the edit and the last change -/
theorem join_at {S : List UInt8} {l : List RunP} {V : List UInt8} {y a b : Nat} (hg : goodT S l = true) (hVS : V.length = S.length) (hab : a < b) (h0 : (rewM S l V y 74 a b).2 = 0) :
    ∃ (L' : List ChP) (g : ChP), (rewM S l V y 74 a b).1.2 = L' ++ [g] ∧ (rewM S l V y 74 a b).1.1.1.a + ((rewM S l V y 74 a b).1.1.1.X.length : Int) - (((rewM S l V y 74 a b).1.1.1.S.length : Int) - (g.t : Int)) - (g.put.length : Int) = (joAt S l V y a (b - a) : Nat) ∧
      0 ≤ (rewM S l V y 74 a b).1.1.1.a ∧ (rewM S l V y 74 a b).1.1.1.a ≤ 4096 ∧ (rewM S l V y 74 a b).1.1.1.X.length ≤ 4096 ∧ (rewM S l V y 74 a b).1.1.1.S.length ≤ 4096 ∧ g.t ≤ 4096 ∧ g.put.length ≤ 1 ∧ L'.length ≤ 10000 := by
  by_cases hb : countL V ≤ b
  · have : rewM S l V y 74 a b = (((edit0, []), []), 6) := if_pos hb
    rw [this] at h0
    exact absurd h0 (by decide)
  have hbl : b < countL V := by omega
  obtain ⟨x, _, hx, hat⟩ := chg_join (y := y) hg hVS hab hbl
  obtain ⟨L', hL⟩ := join_last (V := V) hab hbl
  have hT : rewT S l V y 74 a b = (x, 0) := hx
  have e : rewM S l V y 74 a b = (((turnedM S l y (begL V a : Nat) (endL V b : Nat) x.1 x.2 true).1, rewL V 74 a b), (turnedM S l y (begL V a : Nat) (endL V b : Nat) x.1 x.2 true).2) := by
    unfold rewM
    rw [if_neg hb, hT]
    exact if_pos rfl
  rw [e] at h0 ⊢
  dsimp only at h0 ⊢
  obtain ⟨h1, h2, h3, h4, h5⟩ := cut_lens hg hVS (Nat.le_of_lt hab) hbl
  have hcut := (cut_goodO hg h1 h2).1
  obtain ⟨_, ta, _, tg, _, tX, _, tc, _⟩ := turned_ok h0
  rw [hcut] at tc
  injection tc with tc _
  injection tc with tc _
  have hxl := (goodT_size tg).1
  have hL' : rewL V 74 a b = L' ++ [⟨begL V b - begL V a - 1, begL V b - begL V a + inB (lineL V b), if blankB V (endL V b) (begL V b) < endL V b then [32] else []⟩] := hL
  have hbe := beg_end hbl
  have hin := inB_le (lineL V b)
  have hll := lineL_len hbl
  have hbk := blank_inB hbl
  have hF := beg_mono (S := V) (a := a) (b := b) (by omega) hbl
  have hlen : L'.length ≤ 10000 := by
    have q1 := chsL_len (op := 74) (linesOf ((V.drop (begL V a)).take (endL V b - begL V a))) 0 0
    have q2 := linesOf_count ((V.drop (begL V a)).take (endL V b - begL V a))
    have q3 := countL_le ((V.drop (begL V a)).take (endL V b - begL V a))
    have q4 : ((V.drop (begL V a)).take (endL V b - begL V a)).length ≤ 4096 := by rw [List.length_take]; omega
    rw [hL, List.length_append] at q1
    omega
  refine ⟨L', _, hL', ?_, by rw [ta]; omega, by rw [ta]; have := goodT_size hg; omega, by rw [tX]; omega, by rw [← tc, h3]; omega, by dsimp only; omega, ?_, hlen⟩
  · rw [ta, tX, ← tc, h3]
    dsimp only
    by_cases hc : blankB V (endL V b) (begL V b) < endL V b
    · rw [if_pos hc] at hat ⊢
      simp only [List.length_singleton]
      omega
    · rw [if_neg hc] at hat ⊢
      simp only [List.length_nil]
      omega
  · dsimp only
    split <;> simp
set_option maxHeartbeats 8000000 in
theorem oxJoin_any (A : Option Addr) (c : Nat) (S : List UInt8) (l : List RunP) (y : Nat) (hy : y < 18446744073709551616) (V : List UInt8) (hg : goodT S l = true) (hVS : V.length = S.length) (a b : Nat) (ha : a < countL V) (hab : a < b) (hb : b ≤ 1000000) (w : World) (h : Txu w A S l) :
    Calls Tryz.prog 55 #[.agg #[.string ⟨S.toArray⟩, .slice A l.length c, .int .u64 (y : Nat), .string ⟨V.toArray⟩], .int .i64 (a : Nat), .int .i64 (b : Nat)] w (GivesO w (joiM S l V y a b)) := by
  have HRW := Lib.hid (fun wx (hx : Txu wx A S l) => oxRework_any A c S l y hy V hg hVS 74 (.inr (.inr rfl)) a b ha (Nat.le_of_lt hab) hb wx hx)
  have hja := fun h0 => join_at (y := y) hg hVS hab h0
  obtain ⟨v, hv⟩ : ∃ v, joiM S l V y a b = v := ⟨_, rfl⟩
  rw [hv]
  unfold joiM at hv
  generalize joAt S l V y a (b - a) = ja at *
  generalize rewM S l V y 74 a b = r at *
  obtain ⟨⟨⟨⟨ea, ES, el, EX, em⟩, W⟩, L⟩, n⟩ := r
  dsimp only at hja hv
  have HV := Lib.hid hv
  clear hv
  have K0 : Hid (SiK w _ _ A c S l y V) := SiK.start h
  clear h hVS hg ha hab
  by_cases hn : n = 0
  · subst hn
    obtain ⟨L', g, rfl, hat, ha0, ha1, hX, hS, hgt, hgp, hLl⟩ := hja rfl
    obtain ⟨gf, gt, gp⟩ := g
    dsimp only at hat hgt hgp
    have HAT := Lib.hid hat
    have HV2 := Lib.hid ((if_pos rfl).symm.trans HV.out)
    clear hat hja HV
    have hl1 : (L' ++ [(⟨gf, gt, gp⟩ : ChP)]).length = L'.length + 1 := by simp
    have HGET : Hid ((L' ++ [(⟨gf, gt, gp⟩ : ChP)])[L'.length]'(by omega) = ⟨gf, gt, gp⟩) := by show _ = _; simp
    obtain ⟨k, hk⟩ : ∃ k, L'.length = k := ⟨_, rfl⟩
    have HK := Lib.hid hk
    rw [hk] at hl1 hLl
    obtain ⟨L, hL⟩ : ∃ L, L' ++ [(⟨gf, gt, gp⟩ : ChP)] = L := ⟨_, rfl⟩
    rw [hL] at HRW hl1
    have HLq := Lib.hid hL
    clear hk hL
    have HL1 := Lib.hid hl1
    go_enter Tryz.func55, Tryz.ntmps55
    go_upto_region 1 with fail
    generalize (w.alloc (.cells #[.string ⟨S.toArray⟩, .slice A l.length c, .int .u64 (y : Nat), .string ⟨V.toArray⟩] 89)).alloc (.cells #[.int .i64 0, .string ⟨#[]⟩, .slice none 0 0, .string ⟨#[]⟩, .slice none 0 0, .string ⟨#[]⟩, .slice none 0 0, .bool false, .bool false, .int .i64 0] 43) = wx at *
    obtain ⟨⟨y0, y1, y2, y3⟩, _⟩ := si_cells K0.out.si
    go_upto_region 2 with (go_at_call 104; refine (HRW.out _ K0.out.tS).mono ?_; rintro e w3 ⟨A4, c4, B4, d4, C4, e4, rfl, rA, rB, rC, bb⟩; dsimp only at rA rB rC ⊢; rw [HL1.out]; have K3 := Lib.hid ((K0.out.step bb).alloc (.cells #[.int .i64 ea, .string ⟨ES.toArray⟩, .slice A4 el.length c4, .string ⟨EX.toArray⟩, .slice B4 em.length d4] 41)); have RC := Lib.hid (row_step rC ((Below.refl _ _).alloc (Nat.le_refl _) (.cells #[.int .i64 ea, .string ⟨ES.toArray⟩, .slice A4 el.length c4, .string ⟨EX.toArray⟩, .slice B4 em.length d4] 41))); have RA := Lib.hid (row_step rA ((Below.refl _ _).alloc (Nat.le_refl _) (.cells #[.int .i64 ea, .string ⟨ES.toArray⟩, .slice A4 el.length c4, .string ⟨EX.toArray⟩, .slice B4 em.length d4] 41))); have RB := Lib.hid (row_step rB ((Below.refl _ _).alloc (Nat.le_refl _) (.cells #[.int .i64 ea, .string ⟨ES.toArray⟩, .slice A4 el.length c4, .string ⟨EX.toArray⟩, .slice B4 em.length d4] 41))); have V3 := Lib.hid (Blk.new w3 41 #[.int .i64 ea, .string ⟨ES.toArray⟩, .slice A4 el.length c4, .string ⟨EX.toArray⟩, .slice B4 em.length d4]); have N3 : Hid (w.heap.size + 1 < w3.heap.size) := (K0.out.step bb).res.lt; clear rA rB rC bb y0 y1 y2 y3)
    generalize hg8 : w3.heap.size = g8 at *
    generalize w3.alloc (.cells #[.int .i64 ea, .string ⟨ES.toArray⟩, .slice A4 el.length c4, .string ⟨EX.toArray⟩, .slice B4 em.length d4] 41) = wb at *
    clear hg8 K0 HRW hl1
    go_upto_region 4 with fail
    have hrc := RC.out
    rw [← HLq.out] at hrc
    have hlt : L'.length < (L' ++ [(⟨gf, gt, gp⟩ : ChP)]).length := by simp
    obtain ⟨ad, rfl, hbl, d0, d1, d2⟩ := chg_at hrc hlt
    rw [HGET.out, HK.out] at d0 d1 d2
    dsimp only at d0 d1 d2
    have i1 : (k : Int) < ((k + 1 : Nat) : Int) := by omega
    clear hrc hlt
    go_upto_region 5 with fail
    have K5 := Lib.hid (K3.out.alloc (.cells #[.int .i64 (gf : Nat), .int .i64 (gt : Nat), .string ⟨gp.toArray⟩] 160))
    have V5 := Lib.hid (V3.out.alloc (.cells #[.int .i64 (gf : Nat), .int .i64 (gt : Nat), .string ⟨gp.toArray⟩] 160))
    have RA5 := Lib.hid (row_step RA.out ((Below.refl _ _).alloc (Nat.le_refl _) (.cells #[.int .i64 (gf : Nat), .int .i64 (gt : Nat), .string ⟨gp.toArray⟩] 160)))
    have RB5 := Lib.hid (row_step RB.out ((Below.refl _ _).alloc (Nat.le_refl _) (.cells #[.int .i64 (gf : Nat), .int .i64 (gt : Nat), .string ⟨gp.toArray⟩] 160)))
    have G5 := Lib.hid (Blk.new wb 160 #[.int .i64 (gf : Nat), .int .i64 (gt : Nat), .string ⟨gp.toArray⟩])
    generalize hg12 : wb.heap.size = g12 at *
    generalize wb.alloc (.cells #[.int .i64 (gf : Nat), .int .i64 (gt : Nat), .string ⟨gp.toArray⟩] 160) = w5 at *
    clear hg12 K3 V3 RA RB RC d0 d1 d2 hbl
    obtain ⟨e0, e1, e2, e3, e4⟩ := ed_cells V5.out
    obtain ⟨⟨z0, z1, z2, _⟩, _⟩ := rng_var G5.out
    obtain ⟨⟨r0, r1, r2, r3, r4, r5, r6, r7, r8, r9⟩, t0, t1, t2, t3, t4, t5, t6, t7, t8, t9⟩ := out_cells K5.out.res
    go_wp2_with fail
    exact end_out (A := A4) (B := B4) (C := none) (c := c4) (d := d4) (k := 0) (R := []) (l := el) (m := em) (q := []) rfl _ K5.out.res noLab_out K5.out.bel (Nat.le_succ _) RA5.out RB5.out (.inl rfl) rfl rfl rfl (by rw [HAT.out]; exact HV2.out) (fun _ _ h => h)
  · have HV2 := Lib.hid ((if_neg hn).symm.trans HV.out)
    have hn2 : ((n : Int) != 0) = true := by rw [bne_iff_ne]; omega
    clear hja
    go_enter Tryz.func55, Tryz.ntmps55
    go_upto_region 1 with fail
    generalize (w.alloc (.cells #[.string ⟨S.toArray⟩, .slice A l.length c, .int .u64 (y : Nat), .string ⟨V.toArray⟩] 89)).alloc (.cells #[.int .i64 0, .string ⟨#[]⟩, .slice none 0 0, .string ⟨#[]⟩, .slice none 0 0, .string ⟨#[]⟩, .slice none 0 0, .bool false, .bool false, .int .i64 0] 43) = wx at *
    obtain ⟨⟨y0, y1, y2, y3⟩, _⟩ := si_cells K0.out.si
    go_upto_region 2 with (go_at_call 104; refine (HRW.out _ K0.out.tS).mono ?_; rintro e w3 ⟨A4, c4, B4, d4, C4, e4, rfl, _, _, _, bb⟩; dsimp only; have K3 := Lib.hid ((K0.out.step bb).alloc (.cells #[.int .i64 ea, .string ⟨ES.toArray⟩, .slice A4 el.length c4, .string ⟨EX.toArray⟩, .slice B4 em.length d4] 41)); clear bb y0 y1 y2 y3)
    generalize w3.alloc (.cells #[.int .i64 ea, .string ⟨ES.toArray⟩, .slice A4 el.length c4, .string ⟨EX.toArray⟩, .slice B4 em.length d4] 41) = wb at *
    obtain ⟨⟨r0, r1, r2, r3, r4, r5, r6, r7, r8, r9⟩, t0, t1, t2, t3, t4, t5, t6, t7, t8, t9⟩ := out_cells K3.out.res
    go_wp2_with fail
    exact end_zero rfl _ K3.out.res noLab_out K3.out.bel (Nat.le_succ _) rfl rfl rfl HV2.out (fun _ _ h => h)
end Go.Proofs.YtgpmfkedcoiopaaGreatDoor

/-
  What the landed parts of Do answer is the document's: plain, layer 14.
-/
namespace Go.Proofs.YtgpmfkedcoiopaaGreatDoor
open Go.RowKit
set_option maxRecDepth 100000

theorem view_facts {S : List UInt8} {l : List RunP} {y : Nat} (h : (viewOf S l y).2 = 0) : goodT S l = true ∧ (viewOf S l y).1.length = S.length ∧ ∀ i, (viewOf S l y).1.getD i 0 = S.getD i 0 ∨ (viewOf S l y).1.getD i 0 = 35 := by
  unfold viewOf at h ⊢
  by_cases hg : goodT S l = true
  · rw [if_pos hg]
    have hl := (goodT_size hg).2.2
    have hvl := viewTo_len (y := y) hl
    refine ⟨hg, hvl, fun i => ?_⟩
    dsimp only
    rcases Nat.lt_or_ge i S.length with hi | hi
    · have e : (viewTo S (bytesOf l) y)[i]? = some (if subB ((bytesOf l)[i]'(by omega)) y = true then S[i] else 35) := by
        unfold viewTo
        rw [List.getElem?_map, List.getElem?_eq_getElem (by rw [List.length_zip]; omega)]
        simp
      rw [List.getD_eq_getElem?_getD, e, List.getD_eq_getElem?_getD, List.getElem?_eq_getElem hi]
      by_cases hs : subB ((bytesOf l)[i]'(by omega)) y = true
      · left; rw [if_pos hs]
      · right; rw [if_neg hs]; rfl
    · left
      rw [List.getD_eq_getElem?_getD, List.getElem?_eq_none (by omega), List.getD_eq_getElem?_getD, List.getElem?_eq_none hi]
  · rw [if_neg hg] at h
    exact absurd h (by decide)
section
variable {S : List UInt8} {l : List RunP} {y : Nat} {f t : Int} {b : Bool} {F E a e : Nat} {V : List UInt8}
theorem do_of (hV : (viewOf S l y).1 = V) (h0 : (viewOf S l y).2 = 0) (hr : rightM V f t b = true) (op : Int) :
    doM S l y op f t b = if op = 100 ∨ op = 121 ∨ op = 99 then takenM S l V y op f t b else if op = 62 ∨ op = 60 then shiftedM S l V y op f t b else if op = 126 then toggledM S l V y f t b else if op = 74 then joinedM S l V y f t b else (out0, 2) := by
  unfold doM
  dsimp only
  rw [hV, if_neg]
  rintro (h | h)
  · exact h h0
  · rw [hr] at h; cases h
theorem do_bad (h : (viewOf S l y).2 ≠ 0 ∨ rightM (viewOf S l y).1 f t b = false) (op : Int) : doM S l y op f t b = (out0, 2) := if_pos h
theorem take_y (hp : bytesM V f t b = ((F : Int), (E : Int))) : takenM S l V y 121 f t b = (yankM S l V F E b, 0) := by
  unfold takenM yankM
  dsimp only
  rw [hp, if_pos rfl]
  simp only [Int.toNat_natCast]
theorem take_c (hg : goodT S l = true) (hVS : V.length = S.length) (hp : bytesM V f t b = ((F : Int), (E : Int))) (hFE : F ≤ E) (hE : E ≤ V.length) (op : Int) (hop : op = 99 ∨ (op = 100 ∧ b = false)) : takenM S l V y op f t b = takM S l y F E (yankM S l V F E b) := by
  have hdel := turned_del hg hFE (by omega) y
  have h1 : ¬ op = 121 := by rcases hop with h | h <;> omega
  have h2 : ¬ (op = 100 ∧ b = true) := by
    rintro ⟨h3, h4⟩
    rcases hop with h | h
    · omega
    · rw [h.2] at h4; cases h4
  unfold takenM takM yankM
  dsimp only
  rw [hp, if_neg h1, if_neg h2, if_pos hdel]
  simp only [Int.toNat_natCast]
theorem take_d (hp : bytesM V f t true = ((F : Int), (E : Int))) : takenM S l V y 100 f t true = (remL S l V y F E f t, 0) := by
  unfold takenM remL
  dsimp only
  rw [hp, if_neg (by decide), if_pos ⟨rfl, rfl⟩]
  simp only [Bool.true_or]
theorem shift_is (hg : goodT S l = true) (hVS : V.length = S.length) (hp : linesP V f t b = ((a : Int), (e : Int))) (hae : a ≤ e) (he : e < countL V) {op : Int} (hop : op = 62 ∨ op = 60) : shiftedM S l V y op f t b = shfM S l V y op a e := by
  have hx : rewT S l V y op a e = _ := chg_shift (y := y) hg hVS hop hae he
  have hk : ((e : Int) - (a : Int) + 1).toNat = e + 1 - a := by omega
  have hr0 : rewM S l V y op a e = if (rewT S l V y op a e).2 = 0 then (((turnedM S l y (begL V a : Nat) (endL V e : Nat) (rewT S l V y op a e).1.1 (rewT S l V y op a e).1.2 true).1, rewL V op a e), (turnedM S l y (begL V a : Nat) (endL V e : Nat) (rewT S l V y op a e).1.1 (rewT S l V y op a e).1.2 true).2) else (((edit0, []), []), (rewT S l V y op a e).2) := if_neg (by omega)
  rw [hx] at hr0
  unfold shiftedM shfM
  dsimp only
  rw [hp]
  dsimp only
  rw [hk, boundsL_nat (S := V) (n := a) (by omega), boundsL_nat he]
  cases hpl : pileM (shList S l V y op a e (e + 1 - a)) with
  | none =>
    rw [hpl] at hr0
    have hr : rewM S l V y op a e = (((edit0, []), []), 3) := hr0
    rw [hr]
    rfl
  | some x =>
    rw [hpl] at hr0
    have hr : rewM S l V y op a e = (((turnedM S l y (begL V a : Nat) (endL V e : Nat) x.1 x.2 true).1, rewL V op a e), (turnedM S l y (begL V a : Nat) (endL V e : Nat) x.1 x.2 true).2) := hr0
    rw [hr]
    rfl
theorem join_is (hg : goodT S l = true) (hVS : V.length = S.length) (hp : linesP V f t b = ((a : Int), (e : Int))) (hae : a ≤ e) : joinedM S l V y f t b = joiM S l V y a (max e (a + 1)) := by
  have hm : max (e : Int) ((a : Int) + 1) = ((max e (a + 1) : Nat) : Int) := by omega
  have hab : a < max e (a + 1) := by omega
  obtain ⟨j, hj⟩ : ∃ j, max e (a + 1) = j := ⟨_, rfl⟩
  rw [hj] at hm hab
  unfold joinedM joiM
  dsimp only
  rw [hp, hj]
  dsimp only
  rw [hm]
  by_cases hc : countL V ≤ j
  · have hr : rewM S l V y 74 a j = (((edit0, []), []), 6) := if_pos hc
    rw [if_pos (by omega), hr]
    rfl
  · obtain ⟨x, hpl, hx, _⟩ := chg_join (y := y) hg hVS hab (show j < countL V by omega)
    have hT : rewT S l V y 74 a j = (x, 0) := hx
    have hr : rewM S l V y 74 a j = (((turnedM S l y (begL V a : Nat) (endL V j : Nat) x.1 x.2 true).1, rewL V 74 a j), (turnedM S l y (begL V a : Nat) (endL V j : Nat) x.1 x.2 true).2) := by
      unfold rewM
      rw [if_neg hc, hT]
      exact if_pos rfl
    have hk : ((j : Int) - (a : Int)).toNat = j - a := by omega
    obtain ⟨k, hk2⟩ : ∃ k, j - a = k + 1 := ⟨j - a - 1, by omega⟩
    have hje : joEnd V a (j - a) = endL V j := by
      rw [hk2]
      show (boundsL V ((a : Int) + 1 + (k : Nat))).1.2 = _
      rw [show ((a : Int) + 1 + (k : Nat)) = ((j : Nat) : Int) by omega, boundsL_nat (by omega)]
    rw [if_neg (by omega), hk, hpl, hje, boundsL_nat (n := a) (by omega), hr]
    rfl
end
end Go.Proofs.YtgpmfkedcoiopaaGreatDoor

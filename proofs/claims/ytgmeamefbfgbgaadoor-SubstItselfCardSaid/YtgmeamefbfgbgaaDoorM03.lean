/-
  Merged: RunMath, RunRow, RunBytes, RunPack, RunSame, RunGood, RunNormal, RunSlice, RunWithin, RunCut, RunAsk, RunCat, RunRefS, RunRefR, RunOpen, PairOpen, RunIdx, RunLens, RunTwice.
-/
import Derived.Test.YtgmeamefbfgbgaaDoorWords
import Derived.Test.YtgmeamefbfgbgaaDoorRows
import Derived.BigQuiet
import Derived.Deep.QuietTactic
import Derived.Test.YtgmeamefbfgbgaaDoorM01
import Derived.Deep.RegionWith
import Derived.Deep.RegionHeld3
import Derived.Deep.DeepCutAuto
import Derived.Deep.SlicePairs
/-
  Runs and the labels of bytes, as plain lists: layer 3.
-/
namespace Go.Proofs.YtgmeamefbfgbgaaDoor
set_option maxRecDepth 100000
open Go.RowKit

/-- a run: a label, and how many bytes -/
abbrev RunP := Nat × Int
def bytesOf (l : List RunP) : List Nat := l.flatMap fun r => List.replicate r.2.toNat r.1
def packStep (out : List RunP) (x : Nat) : List RunP :=
  match out.getLast? with
  | none => [(x, 1)]
  | some r => if r.1 = x then out.dropLast ++ [(x, r.2 + 1)] else out ++ [(x, 1)]
def pack (b : List Nat) : List RunP := b.foldl packStep []
theorem pack_nil : pack [] = [] := rfl
theorem pack_snoc (b : List Nat) (x : Nat) : pack (b ++ [x]) = packStep (pack b) x := by simp [pack, List.foldl_append]
theorem bytesOf_nil : bytesOf [] = [] := rfl
theorem bytesOf_cons (r : RunP) (l : List RunP) : bytesOf (r :: l) = List.replicate r.2.toNat r.1 ++ bytesOf l := by simp [bytesOf]
theorem bytesOf_append (l m : List RunP) : bytesOf (l ++ m) = bytesOf l ++ bytesOf m := by simp [bytesOf]
theorem bytesOf_one (r : RunP) : bytesOf [r] = List.replicate r.2.toNat r.1 := by simp [bytesOf]

/-- each run has a byte, and neighbours differ -/
inductive Neat : List RunP → Prop
  | nil : Neat []
  | one (r : RunP) (h : 1 ≤ r.2) : Neat [r]
  | snoc (l : List RunP) (r s : RunP) (hl : Neat (l ++ [r])) (h : 1 ≤ s.2) (hne : r.1 ≠ s.1) : Neat (l ++ [r] ++ [s])

theorem snoc_cases {α : Type} (l : List α) : l = [] ∨ ∃ m x, l = m ++ [x] := by
  rcases l.eq_nil_or_concat with h | ⟨m, x, h⟩
  · exact .inl h
  · exact .inr ⟨m, x, by simpa using h⟩
theorem packStep_nil (x : Nat) : packStep [] x = [(x, 1)] := rfl
theorem packStep_snoc (l : List RunP) (r : RunP) (x : Nat) : packStep (l ++ [r]) x = if r.1 = x then l ++ [(x, r.2 + 1)] else l ++ [r] ++ [(x, 1)] := by
  unfold packStep
  rw [List.getLast?_concat]
  simp only [List.dropLast_concat]
theorem Neat.last {l : List RunP} {r : RunP} (h : Neat (l ++ [r])) : 1 ≤ r.2 := by
  generalize e : l ++ [r] = m at h
  cases h with
  | nil => simp at e
  | one s h =>
    have := congrArg List.getLast? e
    rw [List.getLast?_concat] at this
    simp at this; subst this; exact h
  | snoc k a s hl h hne =>
    have := congrArg List.getLast? e
    rw [List.getLast?_concat, List.getLast?_concat] at this
    simp at this; subst this; exact h
theorem Neat.more {l : List RunP} {r : RunP} (h : Neat (l ++ [r])) : Neat (l ++ [(r.1, r.2 + 1)]) := by
  have h1 := h.last
  generalize e : l ++ [r] = m at h
  cases h with
  | nil => simp at e
  | one s h =>
    rcases snoc_cases l with rfl | ⟨k, x, rfl⟩
    · exact .one _ (by show 1 ≤ r.2 + 1; omega)
    · have := congrArg List.length e; simp at this
  | snoc k a s hl h hne =>
    obtain ⟨e1, e2⟩ := List.append_inj' e rfl
    subst e1
    have e3 : r = s := by simpa using e2
    subst e3
    exact .snoc k a _ hl (by show 1 ≤ r.2 + 1; omega) hne
theorem neat_step {l : List RunP} (h : Neat l) (x : Nat) : Neat (packStep l x) := by
  rcases snoc_cases l with rfl | ⟨m, r, rfl⟩
  · exact .one _ (Int.le_refl _)
  · rw [packStep_snoc]
    split
    · next e => subst e; exact h.more
    · next hne => exact .snoc m r _ h (Int.le_refl _) hne
theorem bytesOf_step {l : List RunP} (h : Neat l) (x : Nat) : bytesOf (packStep l x) = bytesOf l ++ [x] := by
  rcases snoc_cases l with rfl | ⟨m, r, rfl⟩
  · rfl
  · have h1 := h.last
    rw [packStep_snoc]
    split
    · next e =>
      subst e
      rw [bytesOf_append, bytesOf_append, bytesOf_one, bytesOf_one, List.append_assoc]
      congr 1
      show List.replicate (r.2 + 1).toNat r.1 = _
      rw [show (r.2 + 1).toNat = r.2.toNat + 1 by omega, List.replicate_succ']
    · rw [bytesOf_append]; rfl
theorem snoc_ind {P : List Nat → Prop} (h0 : P []) (h1 : ∀ b x, P b → P (b ++ [x])) (b : List Nat) : P b := by
  have key : ∀ n (b : List Nat), b.length = n → P b := by
    intro n
    induction n with
    | zero => intro b hb; rw [List.eq_nil_of_length_eq_zero hb]; exact h0
    | succ n ih =>
      intro b hb
      rcases snoc_cases b with rfl | ⟨m, x, rfl⟩
      · simp at hb
      · exact h1 m x (ih m (by simpa using hb))
  exact key _ b rfl
theorem neat_pack (b : List Nat) : Neat (pack b) :=
  snoc_ind (P := fun b => Neat (pack b)) .nil (fun b x ih => by rw [pack_snoc]; exact neat_step ih x) b
theorem bytesOf_pack (b : List Nat) : bytesOf (pack b) = b :=
  snoc_ind (P := fun b => bytesOf (pack b) = b) rfl (fun b x ih => by rw [pack_snoc, bytesOf_step (neat_pack b), ih]) b
/-- n bytes of one label behind a list that does not end with it -/
theorem pack_replicate {b : List Nat} {l : List RunP} (hl : pack b = l) (x n : Nat) (hx : ∀ m r, l = m ++ [r] → r.1 ≠ x) (hn : 1 ≤ n) : pack (b ++ List.replicate n x) = l ++ [(x, (n : Int))] := by
  induction n with
  | zero => omega
  | succ n ih =>
    rw [List.replicate_succ', ← List.append_assoc, pack_snoc]
    by_cases h0 : n = 0
    · subst h0
      rw [List.replicate_zero, List.append_nil, hl]
      rcases snoc_cases l with rfl | ⟨m, r, rfl⟩
      · rfl
      · rw [packStep_snoc, if_neg (hx m r rfl)]; rfl
    · rw [ih (by omega), packStep_snoc, if_pos rfl]
      congr 1
theorem pack_bytesOf {l : List RunP} (h : Neat l) : pack (bytesOf l) = l := by
  induction h with
  | nil => rfl
  | one r h =>
    have := pack_replicate (b := []) (l := []) rfl r.1 r.2.toNat (fun m r e => by simp at e) (by omega)
    rw [bytesOf_one]
    rw [List.nil_append, List.nil_append] at this
    rw [this]
    congr 1
    exact Prod.ext rfl (by show ((r.2.toNat : Nat) : Int) = r.2; omega)
  | snoc l r s hl h hne ih =>
    rw [bytesOf_append, bytesOf_one, pack_replicate ih s.1 s.2.toNat (fun m q e => ?_) (by omega)]
    · congr 2
      exact Prod.ext rfl (by show ((s.2.toNat : Nat) : Int) = s.2; omega)
    · have : r = q := by simpa using (List.append_inj' e rfl).2
      subst this; exact hne
theorem neat_iff (l : List RunP) : Neat l ↔ pack (bytesOf l) = l := ⟨pack_bytesOf, fun h => h ▸ neat_pack _⟩
theorem pack_inj {b c : List Nat} (h : pack b = pack c) : b = c := by rw [← bytesOf_pack b, h, bytesOf_pack]
theorem bytesOf_inj {l m : List RunP} (hl : Neat l) (hm : Neat m) (h : bytesOf l = bytesOf m) : l = m := by rw [← pack_bytesOf hl, h, pack_bytesOf hm]

/-- all bytes of a list, counted -/
def sumN (l : List RunP) : Nat := (l.map fun r => r.2.toNat).sum
theorem bytesOf_len (l : List RunP) : (bytesOf l).length = sumN l := by
  induction l with
  | nil => rfl
  | cons r l ih => rw [bytesOf_cons, List.length_append, ih]; simp [sumN]
theorem sumN_pack (b : List Nat) : sumN (pack b) = b.length := by rw [← bytesOf_len, bytesOf_pack]
theorem sumN_nil : sumN [] = 0 := rfl
theorem sumN_snoc (l : List RunP) (r : RunP) : sumN (l ++ [r]) = sumN l + r.2.toNat := by simp [sumN]
theorem sumN_take_le (l : List RunP) (k : Nat) : sumN (l.take k) ≤ sumN l := by
  have : sumN l = sumN (l.take k) + sumN (l.drop k) := by
    unfold sumN; rw [← List.sum_append, ← List.map_append, List.take_append_drop]
  omega
/-- how many bytes; 4097 if they are more than 4096 -/
def totalOf (l : List RunP) : Nat := if sumN l ≤ 4096 then sumN l else 4097
def goodB (l : List RunP) : Bool := decide (sumN l ≤ 4096) && decide (pack (bytesOf l) = l)
theorem goodB_iff (l : List RunP) : goodB l = true ↔ sumN l ≤ 4096 ∧ Neat l := by
  unfold goodB; rw [neat_iff]; simp
theorem goodB_pack {b : List Nat} (h : b.length ≤ 4096) : goodB (pack b) = true := (goodB_iff _).2 ⟨by rw [sumN_pack]; exact h, neat_pack b⟩
theorem goodB_eq {l : List RunP} (h : goodB l = true) : pack (bytesOf l) = l := pack_bytesOf ((goodB_iff l).1 h).2
theorem totalOf_good {l : List RunP} (h : goodB l = true) : totalOf l = (bytesOf l).length := by
  rw [bytesOf_len]; unfold totalOf; rw [if_pos ((goodB_iff l).1 h).1]
end Go.Proofs.YtgmeamefbfgbgaaDoor

/-
  Lists of runs as rows of cells: layer 3.
-/
namespace Go.Proofs.YtgmeamefbfgbgaaDoor
set_option maxRecDepth 100000
open Go.RowKit

def flatR (l : List RunP) : List Value := l.flatMap fun r => [.int .u64 (r.1 : Nat), .int .i64 r.2]
theorem flatR_nil : flatR [] = [] := rfl
theorem flatR_snoc (l : List RunP) (r : RunP) : flatR (l ++ [r]) = flatR l ++ [.int .u64 (r.1 : Nat), .int .i64 r.2] := by simp [flatR]
theorem flatR_len (l : List RunP) : (flatR l).length = l.length * 2 := by
  induction l with
  | nil => rfl
  | cons r l ih => simp only [flatR, List.flatMap_cons, List.length_append, List.length_cons] at *; rw [ih]; simp; omega
theorem flatR_get (l : List RunP) (k : Nat) (hk : k < l.length) : (flatR l)[k * 2]? = some (.int .u64 (l[k].1 : Nat)) ∧ (flatR l)[k * 2 + 1]? = some (.int .i64 l[k].2) := by
  induction l generalizing k with
  | nil => simp at hk
  | cons r l ih =>
    cases k with
    | zero => simp [flatR]
    | succ k =>
      have := ih k (by simpa using hk)
      simp only [flatR, List.flatMap_cons, List.getElem_cons_succ] at *
      rw [List.getElem?_append_right (by simp; omega), List.getElem?_append_right (by simp; omega)]
      simp only [List.length_cons, List.length_nil]
      rw [show (k + 1) * 2 - (0 + 1 + 1) = k * 2 by omega, show (k + 1) * 2 + 1 - (0 + 1 + 1) = k * 2 + 1 by omega]
      exact this
theorem run_field (ad : Addr) (k : Nat) : ad.add (k * 2 + 1) = ⟨(ad.add (k * 2)).block, (ad.add (k * 2)).off + 1, none⟩ := by
  unfold Addr.add
  by_cases hn : k = 0
  · subst hn; simp
  · have : k * 2 ≠ 0 := by omega
    simp [this]; omega
theorem run_cells {w : World} {B : Nat} {A : Option Addr} {l : List RunP} (h : Row w B A (flatR l)) {k : Nat} (hk : k < l.length) :
    ∃ ad, A = some ad ∧ ad.block < B ∧ w.cell? (ad.add (k * 2)) = some (.int .u64 (l[k].1 : Nat)) ∧ w.cell? ⟨(ad.add (k * 2)).block, (ad.add (k * 2)).off + 1, none⟩ = some (.int .i64 l[k].2) := by
  rcases h with h | ⟨ad, rfl, hb, hc⟩
  · have := congrArg List.length h
    rw [flatR_len] at this
    simp at this; omega
  · have c1 := hc _ _ (flatR_get l k hk).2
    rw [run_field _ _] at c1
    exact ⟨ad, rfl, hb, hc _ _ (flatR_get l k hk).1, c1⟩

theorem elt_run : Elt Tryd.prog 22 51 (.agg #[.int .u64 0, .int .i64 0]) 2 16 := ⟨Tryd.underlying22, by kernel_rfl, rfl, by decide⟩
theorem elt_label : Elt Tryd.prog 62 26 (.int .u64 0) 1 8 := ⟨Tryd.underlying62, by kernel_rfl, rfl, by decide⟩

/-- what a list of runs can hold: labels and counts in their kinds -/
def Fits (l : List RunP) : Prop := ∀ r ∈ l, r.1 < 18446744073709551616 ∧ -9223372036854775808 ≤ r.2 ∧ r.2 ≤ 9223372036854775807

theorem totalOf_le (l : List RunP) : totalOf l ≤ 4097 := by unfold totalOf; split <;> omega
theorem sumN_succ (l : List RunP) (k : Nat) (h : k < l.length) : sumN (l.take (k + 1)) = sumN (l.take k) + l[k].2.toNat := by
  rw [List.take_succ_eq_append_getElem h, sumN_snoc]

set_option maxHeartbeats 400000 in
theorem refTotal_any (A : Option Addr) (c B : Nat) (l : List RunP) (hf : Fits l) (hlen : l.length ≤ maxLen) (w : World) (_hB : B ≤ w.heap.size) (h : Row w B A (flatR l)) :
    Calls Tryd.prog 46 #[.slice A l.length c] w fun e w' => e = .returned (.int .i64 (totalOf l : Nat)) ∧ Below w.heap.size w w' := by
  unfold maxLen at hlen
  have HF := Lib.hid hf
  clear hf
  go_enter Tryd.func46, Tryd.ntmps46
  go_wp2
  go_loopw [3, 4] (fun n i wr => ∃ k : Nat, k ≤ l.length ∧ i = .int .i64 k ∧ n = .int .i64 (sumN (l.take k) : Nat) ∧ sumN (l.take k) ≤ 4096 ∧ Row wr B A (flatR l) ∧ Below w.heap.size w wr) (fun _ i _ => l.length - (intOf i).toNat)
  case atStart => exact ⟨0, Nat.zero_le _, rfl, rfl, by simp [sumN], h, Below.refl _ _⟩
  case round =>
    obtain ⟨k, hk, rfl, rfl, hn, h, hb⟩ := hrel
    by_cases hlt : k < l.length
    · obtain ⟨ad, rfl, hbl, c0, c1⟩ := run_cells h hlt
      have hfk := HF.out l[k] (List.getElem_mem hlt)
      have hs1 := sumN_succ l k hlt
      have hle := sumN_take_le l (k + 1)
      generalize l[k] = r at *
      obtain ⟨x, n⟩ := r
      dsimp only at *
      have HS := Lib.hid hs1
      clear hs1
      by_cases hbig : n > 4096 - (sumN (l.take k) : Int)
      · have HT : Hid (totalOf l = 4097) := by
          show totalOf l = 4097
          have := HS.out
          unfold totalOf; rw [if_neg (by omega)]
        clear hle
        go_wp2
        go_ret
        exact ⟨by rw [HT.out]; rfl, hb⟩
      · by_cases hpos : n > 0
        · go_wp2
          go_roundw
          case rel =>
            have := HS.out
            exact ⟨k + 1, by omega, by go_num, by rw [HS.out]; congr 1; omega, by omega, h, hb⟩
          case measure => simp [intOf]; omega
        · go_wp2
          go_roundw
          case rel =>
            have := HS.out
            exact ⟨k + 1, by omega, by go_num, by rw [HS.out]; congr 1; omega, by omega, h, hb⟩
          case measure => simp [intOf]; omega
    · obtain rfl : k = l.length := by omega
      rw [List.take_length] at hn
      go_wp2
      go_ret
      exact ⟨by rw [List.take_length]; unfold totalOf; rw [if_pos hn]; rfl, hb⟩
end Go.Proofs.YtgmeamefbfgbgaaDoor

/-
  Contracts of the document's own answers, layer 3: Bytes.
-/
namespace Go.Proofs.YtgmeamefbfgbgaaDoor
set_option maxRecDepth 100000
open Go.RowKit

theorem bytesOf_succ (l : List RunP) (k : Nat) (h : k < l.length) : bytesOf (l.take (k + 1)) = bytesOf (l.take k) ++ List.replicate l[k].2.toNat l[k].1 := by
  rw [List.take_succ_eq_append_getElem h, bytesOf_append, bytesOf_one]
theorem bytesOf_take_len (l : List RunP) (k : Nat) : (bytesOf (l.take k)).length ≤ sumN l := by rw [bytesOf_len]; exact sumN_take_le l k

set_option maxHeartbeats 1000000 in
theorem refBytes_any (A : Option Addr) (c B : Nat) (l : List RunP) (hf : Fits l) (hlen : l.length ≤ maxLen) (hsum : sumN l ≤ 4096) (w : World) (hB : B ≤ w.heap.size) (h : Row w B A (flatR l)) :
    Calls Tryd.prog 42 #[.slice A l.length c] w fun e w' => ∃ A' c', e = .returned (.slice A' (bytesOf l).length c') ∧
      w'.ownsRow w.heap.size 26 1 (.slice A' (bytesOf l).length c') (bytesOf l).length ((bytesOf l).map u64v) ∧ Below w.heap.size w w' := by
  unfold maxLen at hlen
  have HF := Lib.hid hf
  clear hf
  go_enter Tryd.func42, Tryd.ntmps42
  go_wp2
  go_loopw [3, 4] (fun v i wr => ∃ k : Nat, k ≤ l.length ∧ i = .int .i64 k ∧ wr.ownsRow w.heap.size 26 1 v (bytesOf (l.take k)).length ((bytesOf (l.take k)).map u64v) ∧ Below w.heap.size w wr) (fun _ i _ => l.length - (intOf i).toNat)
  case atStart => exact ⟨0, Nat.zero_le _, rfl, World.ownsRow_nil _ _ _ _, Below.refl _ _⟩
  case round =>
    obtain ⟨k, hk, rfl, hown, hb⟩ := hrel
    by_cases hlt : k < l.length
    · obtain ⟨ad, rfl, hbl, _, _⟩ := run_cells (h.below (hb.mono hB)) hlt
      have hfk := HF.out l[k] (List.getElem_mem hlt)
      have HS : Hid (bytesOf (l.take (k + 1)) = bytesOf (l.take k) ++ List.replicate l[k].2.toNat l[k].1) := bytesOf_succ l k hlt
      have hle := bytesOf_take_len l (k + 1)
      rw [HS.out, List.length_append, List.length_replicate] at hle
      go_wp2
      go_loopw [3, 5] (fun v j wr => ∃ m : Nat, (m : Int) ≤ max l[k].2 0 ∧ j = .int .i64 m ∧ wr.ownsRow w.heap.size 26 1 v ((bytesOf (l.take k)).length + m) ((bytesOf (l.take k) ++ List.replicate m l[k].1).map u64v) ∧ Below w.heap.size w wr) (fun _ j _ => l[k].2.toNat - (intOf j).toNat)
      case atStart => exact ⟨0, by omega, rfl, by simpa using hown, hb⟩
      case round =>
        clear hown hb
        obtain ⟨m, hm, rfl, hown, hb⟩ := hrel
        have z := hb.size
        obtain ⟨ad', e', _, c0, c1⟩ := run_cells (h.below (hb.mono hB)) hlt
        cases e'
        obtain ⟨A1, c2, rfl⟩ := own_form hown
        generalize hr : l[k] = r at *
        have HR := Lib.hid hr
        clear hr
        obtain ⟨x, n⟩ := r
        dsimp only at *
        by_cases hmn : (m : Int) < n
        · have hsz : w.heap.size ≤ wr.heap.size := z
          go_wp2_with (at_builtin; refine wpList_push rfl _ _ _ rfl w.heap.size 26 _ 8 elt_label _ _ _ _ rfl hown (.int .u64 (x : Nat)) rfl rfl (by unfold maxLen; omega) (by omega) hsz ?_; intro v3 w3 hown3 hb3)
          go_roundw
          case rel => exact ⟨m + 1, by omega, by go_num, by rw [List.replicate_succ', ← List.append_assoc, List.map_append]; exact hown3, hb.trans hb3⟩
          case measure => simp [intOf]; omega
        · obtain rfl : m = n.toNat := by omega
          go_wp2
          go_roundw
          case rel => exact ⟨k + 1, by omega, by go_num, by rw [HS.out, List.length_append, List.length_replicate]; exact hown, hb⟩
          case measure => simp [intOf]; omega
    · obtain rfl : k = l.length := by omega
      rw [List.take_length] at hown
      obtain ⟨A1, c1, rfl⟩ := own_form hown
      go_wp2
      go_ret
      exact ⟨A1, c1, rfl, hown, hb⟩
end Go.Proofs.YtgmeamefbfgbgaaDoor

/-
  Contracts of the document's own answers, layer 3: Pack.
-/
namespace Go.Proofs.YtgmeamefbfgbgaaDoor
set_option maxRecDepth 100000
open Go.RowKit

/-- one cell of a row that is owned is written -/
theorem own_set {w : World} {base e size n c g : Nat} {xs : List Value} (h : w.ownsRow base e size (.slice (some ⟨g, 0, none⟩) n c) n xs) (j : Nat) (u : Value) :
    (w.setCell ⟨g, j, none⟩ u).ownsRow base e size (.slice (some ⟨g, 0, none⟩) n c) n (xs.set j u) := by
  obtain ⟨hl, h⟩ := h
  rcases h with ⟨hv, _⟩ | ⟨g', cap, cur, hv, hb, hg, hn, hm, hs, ht⟩
  · simp at hv
  · simp at hv
    obtain ⟨rfl, rfl⟩ := hv
    refine ⟨by simp [hl], .inr ⟨g, c, cur.setIfInBounds j u, rfl, hb, heap_setCell_same w g j cur e u hg, hn, hm, by simp [hs], ?_⟩⟩
    rw [← ht]
    simp [List.take_set]
theorem base_add (g k : Nat) : (⟨g, 0, none⟩ : Addr).add k = ⟨g, k, none⟩ := by
  unfold Addr.add
  by_cases h : k = 0
  · subst h; rfl
  · rw [if_neg h]; simp
theorem base_field (g k : Nat) : (⟨((⟨g, 0, none⟩ : Addr).add (k * 2)).block, ((⟨g, 0, none⟩ : Addr).add (k * 2)).off + 1, none⟩ : Addr) = ⟨g, k * 2 + 1, none⟩ := by rw [base_add]
theorem own_frozen {w : World} {base e size n c g : Nat} {xs : List Value} (h : w.ownsRow base e size (.slice (some ⟨g, 0, none⟩) n c) n xs) (j : Nat) : w.frozen? ⟨g, j, none⟩ = false := by
  rcases h.2 with ⟨hv, _⟩ | ⟨g', cap, cur, hv, hb, hg, _⟩
  · simp at hv
  · simp at hv
    obtain ⟨rfl, rfl⟩ := hv
    exact frozen_of_row w g j cur e hg
theorem own_at {w : World} {base e size n : Nat} {v : Value} {xs : List Value} (h : w.ownsRow base e size v n xs) (hn : 0 < n) : ∃ g c, v = .slice (some ⟨g, 0, none⟩) n c ∧ base ≤ g ∧ g < w.heap.size := by
  rcases h.2 with ⟨_, h0⟩ | ⟨g, cap, cur, hv, hb, hg, _⟩
  · omega
  · refine ⟨g, cap, hv, hb, ?_⟩
    rcases Nat.lt_or_ge g w.heap.size with hlt | hge
    · exact hlt
    · rw [Array.getElem?_eq_none hge] at hg; cases hg
theorem flatR_set (m : List RunP) (r : RunP) (n : Int) : (flatR (m ++ [r])).set (m.length * 2 + 1) (.int .i64 n) = flatR (m ++ [(r.1, n)]) := by
  rw [flatR_snoc, flatR_snoc, List.set_append, if_neg (by rw [flatR_len]; omega), flatR_len, show m.length * 2 + 1 - m.length * 2 = 1 by omega]
  rfl
theorem pack_last_le {b : List Nat} {m : List RunP} {r : RunP} (h : pack b = m ++ [r]) : 1 ≤ r.2 ∧ r.2 ≤ b.length ∧ m.length + 1 ≤ b.length := by
  have hn := neat_pack b
  have hs := sumN_pack b
  rw [h] at hn hs
  have h1 := hn.last
  rw [sumN_snoc] at hs
  have key : ∀ (b : List Nat), (pack b).length ≤ b.length := snoc_ind (P := fun b => (pack b).length ≤ b.length) (by simp [pack]) (fun b x ih => by
    rw [pack_snoc]
    rcases snoc_cases (pack b) with e | ⟨m, r, e⟩
    · rw [e, packStep_nil]; simp
    · rw [e, packStep_snoc]; rw [e] at ih
      split <;> simp at * <;> omega)
  have := key b
  rw [h] at this
  simp at this
  omega

set_option maxHeartbeats 2000000 in
theorem refPack_any (A : Option Addr) (c B : Nat) (b : List Nat) (hz : ∀ x ∈ b, x < 18446744073709551616) (hlen : b.length ≤ 1000000) (w : World) (hB : B ≤ w.heap.size) (h : Row w B A (b.map u64v)) :
    Calls Tryd.prog 69 #[.slice A b.length c] w fun e w' => ∃ A' c', e = .returned (.slice A' (pack b).length c') ∧
      w'.ownsRow w.heap.size 51 2 (.slice A' (pack b).length c') (pack b).length (flatR (pack b)) ∧ Below w.heap.size w w' := by
  have HZ := Lib.hid hz
  clear hz
  go_enter Tryd.func69, Tryd.ntmps69
  go_wp2
  go_loopw [3, 4] (fun v i wr => ∃ k : Nat, k ≤ b.length ∧ i = .int .i64 k ∧ wr.ownsRow w.heap.size 51 2 v (pack (b.take k)).length (flatR (pack (b.take k))) ∧ Below w.heap.size w wr) (fun _ i _ => b.length - (intOf i).toNat)
  case atStart => exact ⟨0, Nat.zero_le _, rfl, World.ownsRow_nil _ _ _ _, Below.refl _ _⟩
  case round =>
    obtain ⟨k, hk, rfl, hown, hb⟩ := hrel
    have z := hb.size
    by_cases hlt : k < b.length
    · obtain ⟨ad, rfl, hbl, hcell⟩ := (h.below (hb.mono hB)).map_at hlt
      have hxk := HZ.out b[k] (List.getElem_mem hlt)
      have HS : Hid (pack (b.take (k + 1)) = packStep (pack (b.take k)) b[k]) := by
        show pack _ = _
        rw [List.take_succ_eq_append_getElem hlt, pack_snoc]
      unfold u64v at hcell
      have hlk : (b.take k).length = k := by rw [List.length_take]; omega
      generalize hx : b[k] = x at *
      have HX := Lib.hid hx
      clear hx
      rcases snoc_cases (pack (b.take k)) with e | ⟨m, r, e⟩
      · rw [e] at hown HS
        rw [packStep_nil] at HS
        have HE := Lib.hid e
        clear e
        obtain ⟨A1, c1, rfl⟩ := own_form hown
        have hd : ∀ n, (wr.drewN n).ownsRow w.heap.size 51 2 _ _ _ := fun n => own_keep hown (below_drewN (Below.refl _ wr) n) (Nat.le_refl _)
        go_wp2
        go_quiet (fail)
        go_wp2_with (at_builtin; refine wpList_pushN rfl _ _ _ rfl w.heap.size 51 _ 2 16 elt_run 51 _ _ _ rfl (hd _) [.int .u64 (x : Nat), .int .i64 1] _ rfl rfl rfl (by simp [Value.oneCell']) (by simp [maxLen]) (by simp) z ?_; intro v3 w3 hown3 hb3 _)
        go_roundw
        case rel => exact ⟨k + 1, by omega, by go_num, by rw [HS.out]; exact hown3, (below_drewN hb _).trans hb3⟩
        case measure => simp [intOf]; omega
      · have hr := pack_last_le e
        rw [hlk] at hr
        rw [e] at hown HS
        rw [packStep_snoc] at HS
        have HE := Lib.hid e
        clear e
        have hlm : (m ++ [r]).length = m.length + 1 := by simp
        rw [hlm] at hown
        clear hlm
        obtain ⟨g, c1, rfl, hg1, hg2⟩ := own_at hown (by omega)
        have hfz := own_frozen hown (m.length * 2 + 1)
        rw [← base_field] at hfz
        obtain ⟨ad', e', _, c0, c1'⟩ := run_cells (Row.of_own hown) (k := m.length) (by simp)
        cases e'
        have STEP : Hid (∀ n, ((wr.drewN n).setCell ⟨((⟨g, 0, none⟩ : Addr).add (m.length * 2)).block, ((⟨g, 0, none⟩ : Addr).add (m.length * 2)).off + 1, none⟩ (.int .i64 (r.2 + 1))).ownsRow w.heap.size 51 2 (.slice (some ⟨g, 0, none⟩) (m.length + 1) c1) (m.length + 1) (flatR (m ++ [(r.1, r.2 + 1)]))) := fun n => by
          rw [base_add, ← flatR_set]
          have := own_keep hown (below_drewN (Below.refl _ wr) n) (Nat.le_refl _)
          exact own_set this _ _
        have HD : Hid (∀ n, (wr.drewN n).ownsRow w.heap.size 51 2 (.slice (some ⟨g, 0, none⟩) (m.length + 1) c1) (m.length + 1) (flatR (m ++ [r]))) := fun n => by
          have := own_keep hown (below_drewN (Below.refl _ wr) n) (Nat.le_refl _)
          exact this
        have HBB : Hid (w.heap.size ≤ ((⟨g, 0, none⟩ : Addr).add (m.length * 2)).block) := by show _ ≤ _; rw [base_add]; exact hg1
        generalize hg : (⟨g, 0, none⟩ : Addr) = ad1 at *
        have HG := Lib.hid hg
        clear hg
        rw [show (m ++ [r])[m.length]'(by simp) = r by simp] at c0 c1'
        by_cases hrx : r.1 = x
        · rw [if_pos hrx] at HS
          subst hrx
          go_wp2
          go_quiet (fail)
          go_wp2
          go_roundw
          case rel => exact ⟨k + 1, by omega, by go_num, by rw [HS.out, List.length_append]; exact STEP.out _, Below.setCell (p := ⟨(ad1.add (m.length * 2)).block, (ad1.add (m.length * 2)).off + 1, none⟩) (below_drewN hb _) HBB.out _⟩
          case measure => simp [intOf]; omega
        · rw [if_neg hrx] at HS
          have ht : ((r.1 : Int) == (x : Int)) = false := by simp; omega
          go_wp2
          go_quiet (fail)
          go_wp2_with (at_builtin; go_loud (refine wpList_pushN rfl _ _ _ rfl w.heap.size 51 _ 2 16 elt_run 51 _ (m.length + 1) (flatR (m ++ [r])) rfl (HD.out _) [.int .u64 (x : Nat), .int .i64 1] _ rfl rfl rfl (by simp [Value.oneCell']) (by unfold maxLen; omega) (by omega) z ?_); intro v3 w3 hown3 hb3 _)
          go_roundw
          case rel => exact ⟨k + 1, by omega, by go_num, by rw [HS.out, List.length_append, List.length_append, flatR_snoc]; exact hown3, (below_drewN hb _).trans hb3⟩
          case measure => simp [intOf]; omega
    · obtain rfl : k = b.length := by omega
      rw [List.take_length] at hown
      obtain ⟨A1, c1, rfl⟩ := own_form hown
      go_wp2
      go_ret
      exact ⟨A1, c1, rfl, hown, hb⟩
end Go.Proofs.YtgmeamefbfgbgaaDoor

/-
  Contracts of the document's own answers, layer 3: Same.
-/
namespace Go.Proofs.YtgmeamefbfgbgaaDoor
set_option maxRecDepth 100000
open Go.RowKit

set_option maxHeartbeats 1000000 in
theorem refSame_any (A A2 : Option Addr) (c d B B2 : Nat) (l m : List RunP) (hl : l.length ≤ maxLen) (hm : m.length ≤ maxLen) (w : World) (_hB : B ≤ w.heap.size) (_hB2 : B2 ≤ w.heap.size) (h1 : Row w B A (flatR l)) (h2 : Row w B2 A2 (flatR m)) :
    Calls Tryd.prog 44 #[.slice A l.length c, .slice A2 m.length d] w fun e w' => e = .returned (.bool (decide (l = m))) ∧ Below w.heap.size w w' := by
  unfold maxLen at hl hm
  go_enter Tryd.func44, Tryd.ntmps44
  by_cases hlen : l.length = m.length
  · generalize hn : m.length = n at *
    have HN := Lib.hid hn
    clear hn
    subst hlen
    go_wp2
    go_loopw [5] (fun i wr => ∃ k : Nat, k ≤ l.length ∧ i = .int .i64 k ∧ Hid (l.take k = m.take k) ∧ Row wr B A (flatR l) ∧ Row wr B2 A2 (flatR m) ∧ Below w.heap.size w wr) (fun i _ => l.length - (intOf i).toNat)
    case atStart => exact ⟨0, Nat.zero_le _, rfl, rfl, h1, h2, Below.refl _ _⟩
    case round =>
      obtain ⟨k, hk, rfl, HT, h1, h2, hbl⟩ := hrel
      by_cases hlt : k < l.length
      · have hlt2 : k < m.length := by rw [HN.out]; exact hlt
        obtain ⟨ad, rfl, _, c0, c1⟩ := run_cells h1 hlt
        obtain ⟨ae, rfl, _, d0, d1⟩ := run_cells h2 hlt2
        have HT2 : Hid (l[k] = m[k] → l.take (k + 1) = m.take (k + 1)) := fun h => by
          have e1 := List.take_succ_eq_append_getElem hlt
          have e2 := List.take_succ_eq_append_getElem hlt2
          rw [e1, e2, HT.out, h]
        have HF : Hid (l[k] ≠ m[k] → l ≠ m) := fun hne e => hne (by subst e; rfl)
        generalize l[k] = r at *
        generalize m[k] = s at *
        obtain ⟨x, i⟩ := r
        obtain ⟨y, j⟩ := s
        dsimp only at *
        by_cases he : x = y ∧ i = j
        · obtain ⟨rfl, rfl⟩ := he
          go_wp2
          go_quiet (fail)
          go_wp2
          go_roundw
          case rel => exact ⟨k + 1, by omega, by go_num, (by first | exact HT2.out rfl | exact HT2.out trivial | exact HT2.out), h1.drewN _, h2.drewN _, below_drewN hbl _⟩
          case measure => simp [intOf]; omega
        · have HD : Hid (decide (l = m) = false) := decide_eq_false (HF.out (fun e => he (by injection e with e1 e2; exact ⟨e1, e2⟩)))
          by_cases hx : x = y
          · subst hx
            have hij : i ≠ j := fun e => he ⟨rfl, e⟩
            have ht : (i == j) = false := by simpa using hij
            go_wp2
            go_quiet (fail)
            go_wp2
            go_ret
            exact ⟨by rw [HD.out]; rfl, below_drewN hbl _⟩
          · have ht : ((x : Int) == (y : Int)) = false := by simp; omega
            go_wp2
            go_quiet (fail)
            go_wp2
            go_ret
            exact ⟨by rw [HD.out]; rfl, below_drewN hbl _⟩
      · obtain rfl : k = l.length := by omega
        have HE : Hid (l = m) := by
          have := HT.out
          rw [List.take_length, ← HN.out, List.take_length] at this
          exact this
        go_wp2
        go_ret
        exact ⟨by rw [decide_eq_true HE.out]; rfl, hbl⟩
  · have hne : decide (l = m) = false := decide_eq_false (fun e => hlen (by rw [e]))
    have HD := Lib.hid hne
    clear hne
    have ht : ((l.length : Int) == (m.length : Int)) = false := by simp; omega
    go_wp2
    go_ret
    exact ⟨by rw [HD.out]; rfl, Below.refl _ _⟩
end Go.Proofs.YtgmeamefbfgbgaaDoor

/-
  Contracts of the document's own answers, layer 3: Good, Normal.
-/
namespace Go.Proofs.YtgmeamefbfgbgaaDoor
set_option maxRecDepth 100000
open Go.RowKit

theorem bytesOf_mem {l : List RunP} (hf : Fits l) : ∀ x ∈ bytesOf l, x < 18446744073709551616 := by
  intro x hx
  unfold bytesOf at hx
  obtain ⟨r, hr, h⟩ := List.mem_flatMap.1 hx
  rw [(List.mem_replicate.1 h).2]
  exact (hf r hr).1
theorem pack_len (b : List Nat) : (pack b).length ≤ b.length := by
  rcases snoc_cases (pack b) with e | ⟨m, r, e⟩
  · rw [e]; simp
  · have := (pack_last_le e).2.2
    rw [e]; simpa using this

set_option maxHeartbeats 1000000 in
theorem refGood_any (A : Option Addr) (c B : Nat) (l : List RunP) (hf : Fits l) (hlen : l.length ≤ maxLen) (w : World) (hB : B ≤ w.heap.size) (h : Row w B A (flatR l)) :
    Calls Tryd.prog 45 #[.slice A l.length c] w fun e w' => e = .returned (.bool (goodB l)) ∧ Below w.heap.size w w' := by
  have HF := Lib.hid hf
  clear hf
  by_cases hs : sumN l ≤ 4096
  · have HT : Hid (totalOf l = sumN l) := by show _ = _; unfold totalOf; rw [if_pos hs]
    have HG : Hid (goodB l = decide (l = pack (bytesOf l))) := by show _ = _; unfold goodB; rw [decide_eq_true hs, Bool.true_and]; exact decide_eq_decide.2 eq_comm
    have HL : Hid ((bytesOf l).length ≤ 1000000) := by show _ ≤ _; rw [bytesOf_len]; omega
    have HP := Lib.hid (pack_len (bytesOf l))
    go_enter Tryd.func45, Tryd.ntmps45
    go_wp2_with (first
      | (go_at_call 46; refine (refTotal_any A c B l HF.out hlen _ hB h).mono ?_; rintro e w1 ⟨rfl, hb1⟩; rw [HT.out]; have z1 := hb1.size)
      | (go_at_call 42; refine (refBytes_any A c B l HF.out hlen hs _ (by omega) (h.below (hb1.mono hB))).mono ?_; rintro e w2 ⟨A2, c2, rfl, hown2, hb2⟩; have z2 := hb2.size)
      | (go_at_call 69; refine (refPack_any A2 c2 w2.heap.size (bytesOf l) (bytesOf_mem HF.out) HL.out _ (Nat.le_refl _) (Row.of_own hown2)).mono ?_; rintro e w3 ⟨A3, c3, rfl, hown3, hb3⟩; have z3 := hb3.size)
      | (go_at_call 44; refine (refSame_any A A3 c c3 B w3.heap.size l (pack (bytesOf l)) hlen (by have := HP.out; have := HL.out; unfold maxLen; omega) _ (by omega) (Nat.le_refl _) (((h.below (hb1.mono hB)).below (hb2.mono (by omega))).below (hb3.mono (by omega))) (Row.of_own hown3)).mono ?_; rintro e w4 ⟨rfl, hb4⟩))
    go_ret
    exact ⟨by rw [HG.out]; rfl, ((hb1.trans (hb2.mono z1)).trans (hb3.mono (by omega))).trans (hb4.mono (by omega))⟩
  · have HT : Hid (totalOf l = 4097) := by show _ = _; unfold totalOf; rw [if_neg hs]
    have HG : Hid (goodB l = false) := by show _ = _; unfold goodB; rw [decide_eq_false hs, Bool.false_and]
    go_enter Tryd.func45, Tryd.ntmps45
    go_wp2_with (go_at_call 46; refine (refTotal_any A c B l HF.out hlen _ hB h).mono ?_; rintro e w1 ⟨rfl, hb1⟩; rw [HT.out])
    go_ret
    exact ⟨by rw [HG.out]; rfl, hb1⟩
end Go.Proofs.YtgmeamefbfgbgaaDoor

/-
  Contracts of the document's own answers, layer 3: Normal.
-/
namespace Go.Proofs.YtgmeamefbfgbgaaDoor
set_option maxRecDepth 100000
open Go.RowKit

def normalOf (l : List RunP) : List RunP × Nat :=
  if (∃ r ∈ l, r.2 < 0) then ([], 2) else if sumN l ≤ 4096 then (pack (bytesOf l), 0) else ([], 3)
/-- a list of runs and a number are the answer -/
def Gives (w : World) (p : List RunP × Nat) (e : Ending) (w' : World) : Prop :=
  ∃ A c, e = .returned (.tuple #[.slice A p.1.length c, .int .i64 (p.2 : Nat)]) ∧ w'.ownsRow w.heap.size 51 2 (.slice A p.1.length c) p.1.length (flatR p.1) ∧ Below w.heap.size w w'
theorem gives_nil {w w' : World} {n : Nat} (hb : Below w.heap.size w w') : Gives w ([], n) (.returned (.tuple #[.slice none 0 0, .int .i64 (n : Nat)])) w' :=
  ⟨none, 0, rfl, World.ownsRow_nil _ _ _ _, hb⟩

end Go.Proofs.YtgmeamefbfgbgaaDoor

/-
  Contracts of the document's own answers, layer 3: joined, within.
-/
namespace Go.Proofs.YtgmeamefbfgbgaaDoor
set_option maxRecDepth 100000
open Go.RowKit

end Go.Proofs.YtgmeamefbfgbgaaDoor

/-
  Contracts of the document's own answers, layer 3: within, Slice.
-/
namespace Go.Proofs.YtgmeamefbfgbgaaDoor
set_option maxRecDepth 100000
open Go.RowKit

def withinB (l : List RunP) (f t : Int) : Bool := goodB l && (decide (0 ≤ f) && (decide (f ≤ t) && decide (t ≤ (totalOf l : Int))))

end Go.Proofs.YtgmeamefbfgbgaaDoor

/-
  Contracts of the document's own answers, layer 3: Slice.
-/
namespace Go.Proofs.YtgmeamefbfgbgaaDoor
set_option maxRecDepth 100000
open Go.RowKit

def cut (b : List Nat) (f t : Int) : List Nat := (b.drop f.toNat).take (t - f).toNat
def sliceOf (l : List RunP) (f t : Int) : List RunP × Nat := if withinB l f t = true then (pack (cut (bytesOf l) f t), 0) else ([], 2)
theorem within_of {l : List RunP} {f t : Int} (h : withinB l f t = true) : goodB l = true ∧ 0 ≤ f ∧ f ≤ t ∧ t ≤ ((bytesOf l).length : Int) ∧ (bytesOf l).length ≤ 4096 ∧ sumN l ≤ 4096 := by
  unfold withinB at h
  simp at h
  have h1 := (goodB_iff l).1 h.1
  have h2 := totalOf_good h.1
  have h3 := bytesOf_len l
  obtain ⟨hg, h4, h5, h6⟩ := h
  exact ⟨hg, h4, h5, by omega, by omega, h1.1⟩
theorem cut_len {b : List Nat} {f t : Int} (h0 : 0 ≤ f) (h1 : f ≤ t) (h2 : t ≤ (b.length : Int)) : ((cut b f t).length : Int) = t - f := by
  unfold cut
  rw [List.length_take, List.length_drop]
  omega
theorem row_cut {w : World} {B : Nat} {ad : Addr} {b : List Nat} (h : ∀ j u, (b.map u64v)[j]? = some u → w.cell? (ad.add j) = some u) (hb : ad.block < B) (f t : Int) (_h0 : 0 ≤ f) : Row w B (some (ad.add f.toNat)) ((cut b f t).map u64v) := by
  refine .inr ⟨_, rfl, by unfold Addr.add; split <;> exact hb, fun j u hj => ?_⟩
  have : (b.map u64v)[f.toNat + j]? = some u := by
    unfold cut at hj
    rw [List.getElem?_map, List.getElem?_take] at hj
    split at hj
    · rw [List.getElem?_drop] at hj
      rw [List.getElem?_map]; exact hj
    · simp at hj
  have := h _ _ this
  rw [← this]
  congr 1
  unfold Addr.add
  by_cases hi : f.toNat = 0 <;> by_cases hj : j = 0 <;> simp [hi, hj, Nat.add_assoc]

theorem own_cap {w : World} {base e size n n' c : Nat} {A : Option Addr} {xs : List Value} (h : w.ownsRow base e size (.slice A n' c) n xs) : n ≤ c := by
  rcases h.2 with ⟨_, hn⟩ | ⟨g, cap, cur, hv, _, _, hn, _⟩
  · omega
  · simp at hv; omega
theorem cut_mem {b : List Nat} {f t : Int} {P : Nat → Prop} (h : ∀ x ∈ b, P x) : ∀ x ∈ cut b f t, P x := fun x hx => h x (List.mem_of_mem_drop (List.mem_of_mem_take hx))
theorem row_own_cut {w : World} {base e n c : Nat} {A : Option Addr} {b : List Nat} (h : w.ownsRow base e 1 (.slice A n c) n (b.map u64v)) (f t : Int) (h0 : 0 ≤ f) :
    Row w w.heap.size (Option.map (fun x => x.add f.toNat) A) ((cut b f t).map u64v) := by
  rcases Row.of_own h with hn | ⟨ad, rfl, hb, hc⟩
  · have : b = [] := by simpa using hn
    subst this
    exact .inl (by simp [cut])
  · exact row_cut hc hb f t h0

end Go.Proofs.YtgmeamefbfgbgaaDoor

/-
  Contracts of the document's own answers, layer 3: At, All.
-/
namespace Go.Proofs.YtgmeamefbfgbgaaDoor
set_option maxRecDepth 100000
open Go.RowKit

def atOf (l : List RunP) (p : Int) : Nat × Bool := if goodB l = true ∧ 0 ≤ p ∧ p < (totalOf l : Int) then ((bytesOf l).getD p.toNat 0, true) else (0, false)
theorem atOf_pos {l : List RunP} {p : Int} (h : goodB l = true) (h0 : 0 ≤ p) (h1 : p < (totalOf l : Int)) : atOf l p = ((bytesOf l).getD p.toNat 0, true) := if_pos ⟨h, h0, h1⟩
theorem atOf_neg {l : List RunP} {p : Int} (h : ¬ (goodB l = true ∧ 0 ≤ p ∧ p < (totalOf l : Int))) : atOf l p = (0, false) := if_neg h

/-- the labels of the runs that have a byte -/
def someOf (l : List RunP) : List Nat := (l.filter fun r => decide (0 < r.2)).map (·.1)
theorem someOf_succ (l : List RunP) (k : Nat) (h : k < l.length) : someOf (l.take (k + 1)) = if 0 < l[k].2 then someOf (l.take k) ++ [l[k].1] else someOf (l.take k) := by
  rw [List.take_succ_eq_append_getElem h]
  unfold someOf
  rw [List.filter_append, List.map_append]
  by_cases hp : 0 < l[k].2
  · rw [if_pos hp]; simp [hp]
  · rw [if_neg hp]; simp [hp]
theorem someOf_len (l : List RunP) : (someOf l).length ≤ l.length := by unfold someOf; rw [List.length_map]; exact List.length_filter_le _ _
theorem someOf_mem {l : List RunP} (hf : Fits l) : ∀ x ∈ someOf l, x < 18446744073709551616 := by
  intro x hx
  unfold someOf at hx
  obtain ⟨r, hr, rfl⟩ := List.mem_map.1 hx
  exact (hf r (List.mem_filter.1 hr).1).1

end Go.Proofs.YtgmeamefbfgbgaaDoor

/-
  Contracts of the document's own answers, layer 3: Cat, Splice.
-/
namespace Go.Proofs.YtgmeamefbfgbgaaDoor
set_option maxRecDepth 100000
open Go.RowKit

def catOf (a b : List RunP) : List RunP × Nat :=
  if goodB a = true ∧ goodB b = true then (if (bytesOf a).length + (bytesOf b).length ≤ 4096 then (pack (bytesOf a ++ bytesOf b), 0) else ([], 3)) else ([], 2)
theorem catOf_bad {a b : List RunP} (h : ¬ (goodB a = true ∧ goodB b = true)) : catOf a b = ([], 2) := if_neg h
theorem catOf_big {a b : List RunP} (h1 : goodB a = true) (h2 : goodB b = true) (h : ¬ (bytesOf a).length + (bytesOf b).length ≤ 4096) : catOf a b = ([], 3) := by unfold catOf; rw [if_pos ⟨h1, h2⟩, if_neg h]
theorem catOf_ok {a b : List RunP} (h1 : goodB a = true) (h2 : goodB b = true) (h : (bytesOf a).length + (bytesOf b).length ≤ 4096) : catOf a b = (pack (bytesOf a ++ bytesOf b), 0) := by unfold catOf; rw [if_pos ⟨h1, h2⟩, if_pos h]
theorem mem_append_lt {a b : List Nat} {n : Nat} (ha : ∀ x ∈ a, x < n) (hb : ∀ x ∈ b, x < n) : ∀ x ∈ a ++ b, x < n := fun x hx => (List.mem_append.1 hx).elim (ha x) (hb x)

def spliceOf (l : List RunP) (f t : Int) (m : List RunP) : List RunP × Nat :=
  if withinB l f t = true ∧ goodB m = true then
    (if ((bytesOf l).length : Int) - (t - f) + ((bytesOf m).length : Int) ≤ 4096 then (pack ((bytesOf l).take f.toNat ++ bytesOf m ++ (bytesOf l).drop t.toNat), 0) else ([], 3))
  else ([], 2)
theorem spliceOf_bad {l m : List RunP} {f t : Int} (h : ¬ (withinB l f t = true ∧ goodB m = true)) : spliceOf l f t m = ([], 2) := if_neg h
theorem spliceOf_big {l m : List RunP} {f t : Int} (h1 : withinB l f t = true) (h2 : goodB m = true) (h : ¬ ((bytesOf l).length : Int) - (t - f) + ((bytesOf m).length : Int) ≤ 4096) : spliceOf l f t m = ([], 3) := by unfold spliceOf; rw [if_pos ⟨h1, h2⟩, if_neg h]
theorem spliceOf_ok {l m : List RunP} {f t : Int} (h1 : withinB l f t = true) (h2 : goodB m = true) (h : ((bytesOf l).length : Int) - (t - f) + ((bytesOf m).length : Int) ≤ 4096) : spliceOf l f t m = (pack ((bytesOf l).take f.toNat ++ bytesOf m ++ (bytesOf l).drop t.toNat), 0) := by unfold spliceOf; rw [if_pos ⟨h1, h2⟩, if_pos h]
def raiseOf (l : List RunP) (f t : Int) (y : Nat) : List RunP × Nat :=
  if withinB l f t = true then (pack ((bytesOf l).take f.toNat ++ (cut (bytesOf l) f t).map (fun x => x ||| y) ++ (bytesOf l).drop t.toNat), 0) else ([], 2)
theorem raiseOf_bad {l : List RunP} {f t : Int} {y : Nat} (h : ¬ withinB l f t = true) : raiseOf l f t y = ([], 2) := if_neg h
theorem raiseOf_ok {l : List RunP} {f t : Int} {y : Nat} (h : withinB l f t = true) : raiseOf l f t y = (pack ((bytesOf l).take f.toNat ++ (cut (bytesOf l) f t).map (fun x => x ||| y) ++ (bytesOf l).drop t.toNat), 0) := if_pos h
theorem cut_front {b : List Nat} {t : Int} : cut b 0 t = b.take t.toNat := by unfold cut; simp
theorem cut_back {b : List Nat} {f : Int} (h : 0 ≤ f) : cut b f (b.length : Int) = b.drop f.toNat := by
  unfold cut
  exact List.take_of_length_le (by rw [List.length_drop]; omega)
end Go.Proofs.YtgmeamefbfgbgaaDoor

/-
  Contracts of the document's own answers, layer 3: Splice.
-/
namespace Go.Proofs.YtgmeamefbfgbgaaDoor
set_option maxRecDepth 100000
open Go.RowKit

theorem row_take {w : World} {B : Nat} {A : Option Addr} {b : List Nat} (h : Row w B A (b.map u64v)) (F : Nat) : Row w B A ((b.take F).map u64v) := by
  rcases h with h | ⟨ad, rfl, hb, hc⟩
  · have : b = [] := by simpa using h
    subst this
    exact .inl (by simp)
  · refine .inr ⟨ad, rfl, hb, fun j u hj => hc j u ?_⟩
    rw [List.getElem?_map, List.getElem?_take] at hj
    split at hj
    · rw [List.getElem?_map]; exact hj
    · simp at hj
theorem row_drop {w : World} {base e n c : Nat} {A : Option Addr} {b : List Nat} (h : w.ownsRow base e 1 (.slice A n c) n (b.map u64v)) (hn : n = b.length) (T : Nat) (hT : T ≤ n) :
    Row w w.heap.size (if c = T then A else Option.map (fun x => x.add T) A) ((b.drop T).map u64v) := by
  have hcap := own_cap h
  by_cases hc : c = T
  · rw [if_pos hc]
    refine .inl ?_
    rw [List.drop_of_length_le (by omega)]; rfl
  · rw [if_neg hc]
    have := row_own_cut h (T : Int) (b.length : Nat) (by omega)
    rw [cut_back (by omega), Int.toNat_natCast] at this
    exact this
theorem refPack_n (A : Option Addr) (c B n : Nat) (b : List Nat) (e1 : b.length = n) (hz : ∀ x ∈ b, x < 18446744073709551616) (hlen : n ≤ 1000000) (w : World) (hB : B ≤ w.heap.size) (h : Row w B A (b.map u64v)) :
    Calls Tryd.prog 69 #[.slice A n c] w fun e w' => ∃ A' c', e = .returned (.slice A' (pack b).length c') ∧
      w'.ownsRow w.heap.size 51 2 (.slice A' (pack b).length c') (pack b).length (flatR (pack b)) ∧ Below w.heap.size w w' := by
  subst e1
  exact refPack_any A c B b hz hlen w hB h

end Go.Proofs.YtgmeamefbfgbgaaDoor

/-
  Contracts of the document's own answers, layer 3: Raise.
-/
namespace Go.Proofs.YtgmeamefbfgbgaaDoor
set_option maxRecDepth 100000
open Go.RowKit

/-- the places from F to k are raised -/
def raiseTo (b : List Nat) (F k y : Nat) : List Nat := b.take F ++ (cut b F k).map (fun x => x ||| y) ++ b.drop k
theorem raiseTo_start (b : List Nat) (F y : Nat) : raiseTo b F F y = b := by
  unfold raiseTo cut
  simp
theorem raiseTo_front {b : List Nat} {F k y : Nat} (h : F ≤ k) (hk : k ≤ b.length) : (b.take F ++ (cut b F k).map (fun x => x ||| y)).length = k := by
  have := cut_len (b := b) (f := F) (t := k) (by omega) (by omega) (by omega)
  rw [List.length_append, List.length_map, List.length_take]
  omega
theorem raiseTo_len {b : List Nat} {F k y : Nat} (h : F ≤ k) (hk : k ≤ b.length) : (raiseTo b F k y).length = b.length := by
  unfold raiseTo
  rw [List.length_append, raiseTo_front h hk, List.length_drop]
  omega
theorem raiseTo_at {b : List Nat} {F k y : Nat} (h : F ≤ k) (hk : k < b.length) : (raiseTo b F k y)[k]? = some b[k] := by
  unfold raiseTo
  rw [List.getElem?_append_right (by rw [raiseTo_front h (by omega)]; omega), raiseTo_front h (by omega), List.getElem?_drop]
  simp [hk]
theorem raiseTo_step {b : List Nat} {F k y : Nat} (h : F ≤ k) (hk : k < b.length) : (raiseTo b F k y).set k (b[k] ||| y) = raiseTo b F (k + 1) y := by
  unfold raiseTo
  rw [List.set_append_right _ _ (by rw [raiseTo_front h (by omega)]; omega), raiseTo_front h (by omega)]
  rw [Nat.sub_self, List.drop_eq_getElem_cons hk, List.set_cons_zero]
  have e : cut b F ((k + 1 : Nat) : Int) = cut b F k ++ [b[k]] := by
    unfold cut
    rw [show (((k + 1 : Nat) : Int) - (F : Int)).toNat = (k - F) + 1 by omega, show ((k : Int) - (F : Int)).toNat = k - F by omega, Int.toNat_natCast]
    have hl : k - F < (b.drop F).length := by rw [List.length_drop]; omega
    rw [List.take_succ_eq_append_getElem hl]
    congr 2
    rw [List.getElem_drop]
    congr 1
    omega
  rw [e, List.map_append, List.map_cons, List.map_nil, List.append_assoc, List.append_assoc, List.append_assoc]
  rfl
theorem raiseTo_mem {b : List Nat} {F k y : Nat} (hb : ∀ x ∈ b, x < 18446744073709551616) (hy : y < 18446744073709551616) : ∀ x ∈ raiseTo b F k y, x < 18446744073709551616 := by
  unfold raiseTo
  refine mem_append_lt (mem_append_lt (fun x hx => hb x (List.mem_of_mem_take hx)) (fun x hx => ?_)) (fun x hx => hb x (List.mem_of_mem_drop hx))
  obtain ⟨z, hz, rfl⟩ := List.mem_map.1 hx
  exact or_lt (cut_mem hb z hz) hy
theorem own_one {w : World} {base e n c g : Nat} {xs : List Nat} (h : w.ownsRow base e 1 (.slice (some ⟨g, 0, none⟩) n c) n (xs.map u64v)) (j v : Nat) :
    (w.setCell ⟨g, j, none⟩ (.int .u64 (v : Nat))).ownsRow base e 1 (.slice (some ⟨g, 0, none⟩) n c) n ((xs.set j v).map u64v) := by
  have := own_set h j (.int .u64 (v : Nat))
  rw [List.map_set]
  exact this

end Go.Proofs.YtgmeamefbfgbgaaDoor

/-
  Arguments of layer 3: a list of runs, a pair of numbers.
-/
namespace Go.Proofs.YtgmeamefbfgbgaaDoor
open Go.RowKit Go.ChangeShapes Go.WideShapes
set_option maxRecDepth 100000

theorem flatR_at {l : List RunP} {j : Nat} {u : Value} (h : (flatR l)[j]? = some u) : ∃ k, ∃ hk : k < l.length, (j = k * 2 ∧ u = .int .u64 (l[k].1 : Nat)) ∨ (j = k * 2 + 1 ∧ u = .int .i64 l[k].2) := by
  have hj : j < l.length * 2 := by
    rcases Nat.lt_or_ge j (l.length * 2) with h1 | h1
    · exact h1
    · rw [List.getElem?_eq_none (by rw [flatR_len]; exact h1)] at h; cases h
  have hk : j / 2 < l.length := by omega
  obtain ⟨g0, g1⟩ := flatR_get l (j / 2) hk
  refine ⟨j / 2, hk, ?_⟩
  rcases Nat.mod_two_eq_zero_or_one j with h0 | h0
  · left
    have e : j / 2 * 2 = j := by omega
    rw [e, h] at g0
    exact ⟨e.symm, by injection g0⟩
  · right
    have e : j / 2 * 2 + 1 = j := by omega
    rw [e, h] at g1
    exact ⟨e.symm, by injection g1⟩

theorem run_fields : ∃ f0 f1 : Field, Tryd.prog.underlying 51 = some (.struct #[f0, f1]) ∧ f0.offset = 0 ∧ f1.offset = 1 ∧ Tryd.prog.cellsOf f0.type = 1 ∧ Tryd.prog.cellsOf f1.type = 1 ∧ Tryd.prog.underlying f0.type = some (.int .u64) ∧ Tryd.prog.underlying f1.type = some (.int .i64) :=
  ⟨_, _, Tryd.underlying51, by rfl, by rfl, by kernel_rfl, by kernel_rfl, by kernel_rfl, by kernel_rfl⟩

section
variable {H : Type} {enc : TypeId × Value → H} {W : World}
theorem runs_of_trod {fuel : Nat} {cs : List Value} {x : DataW H × List MemPlace} (hf : DataW.trod enc Tryd.prog W 0 (fun _ => true) true fuel 22 cs = some x) :
    ∃ (A : Option Addr) (c : Nat) (zs : List RunP), cs = [.slice A zs.length c] ∧ zs.length ≤ maxLen ∧ Fits zs ∧ Row W W.heap.size A (flatR zs) := by
  obtain ⟨f0, f1, he, o0, o1, c0, c1, k0, k1⟩ := run_fields
  rcases Go.Deep.open_slice_pairs Tryd.underlying22 he (by kernel_rfl) o0 o1 c0 c1 hf with ⟨rfl, _⟩ | ⟨a, len, cap, m, n, V0, V1, D0, D1, P0, P1, rfl, _, hl, hm, hmm, _, hx⟩
  · exact ⟨none, 0, [], rfl, by simp, fun r hr => by simp at hr, Row.nil⟩
  · have hm' : m = cap := hmm
    have key : ∀ i, i < len → ∃ x : Nat, ∃ y : Int, V0 i = .int .u64 (x : Nat) ∧ V1 i = .int .i64 y ∧ x < 18446744073709551616 ∧ -9223372036854775808 ≤ y ∧ y ≤ 9223372036854775807 := fun i hi => by
      obtain ⟨_, _, t0, t1⟩ := hx i (by omega)
      obtain ⟨x, e0, _, w0⟩ := DataW.trod_int k0 t0
      obtain ⟨y, e1, _, w1⟩ := DataW.trod_int k1 t1
      obtain ⟨x', rfl, hx'⟩ := nat_u64 w0
      have := bound_i64 w1
      exact ⟨x', y, by simpa using e0, by simpa using e1, hx', this⟩
    have hlen : ((List.range len).map fun i => ((intOf (V0 i)).toNat, intOf (V1 i))).length = len := by simp
    refine ⟨some a, cap, (List.range len).map fun i => ((intOf (V0 i)).toNat, intOf (V1 i)), by rw [hlen], by rw [hlen]; omega, fun r hr => ?_, ?_⟩
    · obtain ⟨i, hi, rfl⟩ := List.mem_map.1 hr
      obtain ⟨x, y, e0, e1, h0, h1⟩ := key i (List.mem_range.1 hi)
      rw [e0, e1]
      exact ⟨by simpa [intOf] using h0, by simpa [intOf] using h1⟩
    · by_cases h0 : len = 0
      · left; subst h0; simp [flatR]
      · right
        have h1 := (hx 0 (by omega)).1
        have hb := Go.World.block_lt_of_cell? _ _ h1
        rw [add_block] at hb
        refine ⟨a, rfl, hb, fun j u hj => ?_⟩
        obtain ⟨k, hk, h2⟩ := flatR_at hj
        have hk' : k < len := by rw [hlen] at hk; exact hk
        obtain ⟨x, y, e0, e1, _, _⟩ := key k hk'
        obtain ⟨g0, g1, _, _⟩ := hx k (by omega)
        rcases h2 with ⟨rfl, rfl⟩ | ⟨rfl, rfl⟩
        · rw [g0, e0]; simp [e0, intOf]
        · rw [g1, e1]; simp [e1, intOf]
theorem open_runs {r : Reach} {b0 : Nat} {v : Value} {d : DataW H} {ps : List MemPlace} (hval : Value.okWide Tryd.prog W r b0 22 v) (h : DataW.Trod enc Tryd.prog W 0 (fun _ => true) true 22 v d ps) :
    ∃ (A : Option Addr) (c : Nat) (zs : List RunP), v = .slice A zs.length c ∧ zs.length ≤ maxLen ∧ Fits zs ∧ Row W W.heap.size A (flatR zs) := by
  obtain ⟨a0, len, cap, rfl⟩ := okWide_slice Tryd.underlying22 hval
  obtain ⟨fuel, hf⟩ := h
  obtain ⟨A, c, zs, e, h1, h2, h3⟩ := runs_of_trod hf
  simp [Value.cells] at e
  obtain ⟨rfl, rfl, rfl⟩ := e
  exact ⟨_, _, zs, rfl, h1, h2, h3⟩
end
end Go.Proofs.YtgmeamefbfgbgaaDoor

/-
  An argument that is a pair of numbers, [2]int.
-/
namespace Go.Proofs.YtgmeamefbfgbgaaDoor
open Go.RowKit Go.ChangeShapes Go.WideShapes
set_option maxRecDepth 100000
section
variable {H : Type} {enc : TypeId × Value → H} {W : World}
end
end Go.Proofs.YtgmeamefbfgbgaaDoor

/-
  Neat lists, place by place; the label of a byte: layer 3.
-/
namespace Go.Proofs.YtgmeamefbfgbgaaDoor
set_option maxRecDepth 100000
open Go.RowKit

theorem list_snoc_ind {α : Type} {P : List α → Prop} (h0 : P []) (h1 : ∀ b x, P b → P (b ++ [x])) (b : List α) : P b := by
  have key : ∀ n (b : List α), b.length = n → P b := by
    intro n
    induction n with
    | zero => intro b hb; rw [List.eq_nil_of_length_eq_zero hb]; exact h0
    | succ n ih =>
      intro b hb
      rcases snoc_cases b with rfl | ⟨m, x, rfl⟩
      · simp at hb
      · exact h1 m x (ih m (by simpa using hb))
  exact key _ b rfl

theorem last_two {α : Type} (l : List α) (r s : α) : (l ++ [r] ++ [s])[l.length + 1]'(by simp) = s ∧ (l ++ [r] ++ [s])[l.length]'(by simp) = r := by
  constructor
  · simp
  · simp
theorem neat_idx (l : List RunP) : Neat l ↔ ∀ k, (h : k < l.length) → 1 ≤ l[k].2 ∧ (0 < k → (l[k - 1]'(by omega)).1 ≠ l[k].1) := by
  constructor
  · intro h
    induction h with
    | nil => intro k h; simp at h
    | one r h =>
      intro k hk
      obtain rfl : k = 0 := by simpa using hk
      exact ⟨h, fun h => absurd h (by omega)⟩
    | snoc l r s hl h hne ih =>
      intro k hk
      rcases Nat.lt_or_ge k (l ++ [r]).length with h1 | h1
      · obtain ⟨i1, i2⟩ := ih k h1
        refine ⟨by rw [List.getElem_append_left h1]; exact i1, fun h0 => ?_⟩
        rw [List.getElem_append_left h1, List.getElem_append_left (by omega)]
        exact i2 h0
      · have hl' : (l ++ [r]).length = l.length + 1 := by simp
        obtain rfl : k = l.length + 1 := by simp at hk h1; omega
        obtain ⟨e1, e2⟩ := last_two l r s
        rw [e1]
        refine ⟨h, fun _ => ?_⟩
        show ((l ++ [r] ++ [s])[l.length]).1 ≠ s.1
        rw [e2]
        exact hne
  · refine list_snoc_ind (P := fun l : List RunP => (∀ k, (h : k < l.length) → 1 ≤ l[k].2 ∧ (0 < k → (l[k - 1]'(by omega)).1 ≠ l[k].1)) → Neat l) (fun _ => .nil) (fun b x ih h => ?_) l
    have hb : Neat b := ih fun k hk => by
      have := h k (by simp; omega)
      refine ⟨by have := this.1; rw [List.getElem_append_left hk] at this; exact this, fun h0 => ?_⟩
      have := this.2 h0
      rw [List.getElem_append_left hk, List.getElem_append_left (by omega)] at this
      exact this
    rcases snoc_cases b with rfl | ⟨m, r, rfl⟩
    · exact .one x (by simpa using (h 0 (by simp)).1)
    · have hl : (m ++ [r]).length = m.length + 1 := by simp
      have h1 := h (m.length + 1) (by simp)
      obtain ⟨e1, e2⟩ := last_two m r x
      rw [e1] at h1
      refine .snoc m r x hb h1.1 ?_
      have : ((m ++ [r] ++ [x])[m.length]).1 ≠ x.1 := h1.2 (by omega)
      rw [e2] at this
      exact this

theorem neat_take {l : List RunP} {k : Nat} (h : Neat (l.take k)) (hk : k < l.length) (h1 : 1 ≤ l[k].2) (h2 : (h0 : 0 < k) → (l[k - 1]'(by omega)).1 ≠ l[k].1) : Neat (l.take (k + 1)) := by
  rw [neat_idx] at h ⊢
  intro j hj
  have hj' : j ≤ k := by rw [List.length_take] at hj; omega
  rcases Nat.lt_or_ge j k with hlt | hge
  · have := h j (by rw [List.length_take]; omega)
    simp only [List.getElem_take] at this ⊢
    exact this
  · obtain rfl : j = k := by omega
    simp only [List.getElem_take]
    exact ⟨h1, h2⟩
theorem goodB_no {l : List RunP} {k : Nat} (hk : k < l.length) (h : l[k].2 < 1 ∨ ∃ h0 : 0 < k, (l[k - 1]'(by omega)).1 = l[k].1) : goodB l = false := by
  cases hg : goodB l with
  | false => rfl
  | true =>
    have := (neat_idx l).1 ((goodB_iff l).1 hg).2 k hk
    rcases h with h | ⟨h0, h⟩
    · omega
    · exact absurd h (this.2 h0)
theorem goodB_neat {l : List RunP} (h : Neat l) : goodB l = decide ((totalOf l : Int) ≤ 4096) := by
  rw [show decide ((totalOf l : Int) ≤ 4096) = decide (totalOf l ≤ 4096) from decide_eq_decide.2 (by omega)]
  have h2 := goodB_iff l
  unfold totalOf
  by_cases hs : sumN l ≤ 4096
  · rw [if_pos hs, decide_eq_true hs]; exact h2.2 ⟨hs, h⟩
  · rw [if_neg hs]
    cases hg : goodB l with
    | false => simp
    | true => exact absurd (h2.1 hg).1 hs

theorem sumN_cut (l : List RunP) (k : Nat) : sumN l = sumN (l.take k) + sumN (l.drop k) := by
  unfold sumN; rw [← List.sum_append, ← List.map_append, List.take_append_drop]
theorem bytesOf_at {l : List RunP} {k p : Nat} (hk : k < l.length) (h0 : sumN (l.take k) ≤ p) (h1 : p < sumN (l.take (k + 1))) : (bytesOf l).getD p 0 = l[k].1 := by
  have e : bytesOf l = bytesOf (l.take (k + 1)) ++ bytesOf (l.drop (k + 1)) := by rw [← bytesOf_append, List.take_append_drop]
  have hs := sumN_succ l k hk
  have hb := bytesOf_len (l.take k)
  have e2 := bytesOf_succ l k hk
  rw [List.getD_eq_getElem?_getD, e, List.getElem?_append_left (by rw [bytesOf_len]; exact h1), e2, List.getElem?_append_right (by omega), List.getElem?_replicate, if_pos (by omega)]
  rfl
end Go.Proofs.YtgmeamefbfgbgaaDoor

/-
  How long the answers of layer 3 are, and what they hold.
-/
namespace Go.Proofs.YtgmeamefbfgbgaaDoor
set_option maxRecDepth 100000
open Go.RowKit

theorem pack_small {b : List Nat} (h : b.length ≤ 4096) : (pack b).length ≤ maxLen := by have := pack_len b; unfold maxLen; omega
theorem normalOf_len (l : List RunP) : (normalOf l).1.length ≤ maxLen := by
  unfold normalOf
  split
  · simp
  · split
    · next h => exact pack_small (by rw [bytesOf_len]; exact h)
    · simp
theorem sliceOf_len (l : List RunP) (f t : Int) : (sliceOf l f t).1.length ≤ maxLen := by
  unfold sliceOf
  split
  · next h =>
    obtain ⟨_, h0, h1, h2, h3, _⟩ := within_of h
    have := cut_len h0 h1 h2
    exact pack_small (by omega)
  · simp
theorem catOf_len (a b : List RunP) : (catOf a b).1.length ≤ maxLen := by
  unfold catOf
  split
  · split
    · next h => exact pack_small (by rw [List.length_append]; exact h)
    · simp
  · simp
theorem splice_size {b m : List Nat} {f t : Int} (h0 : 0 ≤ f) (h1 : f ≤ t) (h2 : t ≤ (b.length : Int)) : ((b.take f.toNat ++ m ++ b.drop t.toNat).length : Int) = (b.length : Int) - (t - f) + m.length := by
  rw [List.length_append, List.length_append, List.length_take, List.length_drop]; omega
theorem spliceOf_len (l : List RunP) (f t : Int) (m : List RunP) : (spliceOf l f t m).1.length ≤ maxLen := by
  unfold spliceOf
  split
  · next hw =>
    split
    · next h =>
      obtain ⟨_, h0, h1, h2, h3, _⟩ := within_of hw.1
      have := splice_size (m := bytesOf m) h0 h1 h2
      exact pack_small (by omega)
    · simp
  · simp
theorem raiseOf_len (l : List RunP) (f t : Int) (y : Nat) : (raiseOf l f t y).1.length ≤ maxLen := by
  unfold raiseOf
  split
  · next hw =>
    obtain ⟨_, h0, h1, h2, h3, _⟩ := within_of hw
    have := splice_size (m := (cut (bytesOf l) f t).map fun x => x ||| y) h0 h1 h2
    have := cut_len h0 h1 h2
    rw [List.length_map] at *
    exact pack_small (by omega)
  · simp
/-- what is packed fits -/
theorem fits_pack {b : List Nat} (hb : ∀ x ∈ b, x < 18446744073709551616) (hl : b.length ≤ 4096) : Fits (pack b) := by
  intro r hr
  have hn := neat_pack b
  have e := bytesOf_pack b
  obtain ⟨k, hk, rfl⟩ := List.getElem_of_mem hr
  have hs : sumN (pack b) = b.length := sumN_pack b
  have h1 := sumN_succ (pack b) k hk
  have h2 := sumN_take_le (pack b) (k + 1)
  have hp : 1 ≤ (pack b)[k].2 := by
    have key : ∀ l : List RunP, Neat l → ∀ r ∈ l, 1 ≤ r.2 := by
      intro l hl
      induction hl with
      | nil => intro r hr; simp at hr
      | one r h => intro q hq; simp at hq; subst hq; exact h
      | snoc l r s _ h _ ih =>
        intro q hq
        rcases List.mem_append.1 hq with h1 | h1
        · exact ih q h1
        · simp at h1; subst h1; exact h
    exact key _ hn _ hr
  have hm : (pack b)[k].1 ∈ bytesOf (pack b) := by
    unfold bytesOf
    exact List.mem_flatMap.2 ⟨_, hr, List.mem_replicate.2 ⟨by omega, rfl⟩⟩
  rw [e] at hm
  exact ⟨hb _ hm, by omega, by omega⟩
end Go.Proofs.YtgmeamefbfgbgaaDoor

/-
  Parts that are put together again; what was spliced in, taken out: layer 3, as plain lists.
-/
namespace Go.Proofs.YtgmeamefbfgbgaaDoor
set_option maxRecDepth 100000
open Go.RowKit

theorem within_iff (l : List RunP) (f t : Int) : withinB l f t = true ↔ goodB l = true ∧ 0 ≤ f ∧ f ≤ t ∧ t ≤ (totalOf l : Int) := by
  unfold withinB; simp
theorem bytes_lt {l : List RunP} (hf : Fits l) : ∀ x ∈ bytesOf l, x < 18446744073709551616 := bytesOf_mem hf

theorem parts_ok {l : List RunP} (hf : Fits l) {p : Int} (hg : goodB l = true) (h0 : 0 ≤ p) (h1 : p ≤ (totalOf l : Int)) :
    ∃ P Q : List RunP, sliceOf l 0 p = (P, 0) ∧ sliceOf l p (totalOf l : Nat) = (Q, 0) ∧ catOf P Q = (l, 0) ∧ (totalOf P : Int) = p ∧ Fits P ∧ Fits Q ∧ P.length ≤ maxLen ∧ Q.length ≤ maxLen := by
  have ht := totalOf_good hg
  have hl : (bytesOf l).length ≤ 4096 := by rw [bytesOf_len]; exact ((goodB_iff l).1 hg).1
  have hb := bytes_lt hf
  have e1 : sliceOf l 0 p = (pack ((bytesOf l).take p.toNat), 0) := by
    unfold sliceOf
    rw [if_pos ((within_iff _ _ _).2 ⟨hg, Int.le_refl _, h0, h1⟩), cut_front]
  have e2 : sliceOf l p (totalOf l : Nat) = (pack ((bytesOf l).drop p.toNat), 0) := by
    unfold sliceOf
    rw [if_pos ((within_iff _ _ _).2 ⟨hg, h0, h1, Int.le_refl _⟩), ht, cut_back h0]
  have l1 : ((bytesOf l).take p.toNat).length ≤ 4096 := by rw [List.length_take]; omega
  have l2 : ((bytesOf l).drop p.toNat).length ≤ 4096 := by rw [List.length_drop]; omega
  refine ⟨_, _, e1, e2, ?_, ?_, fits_pack (fun x hx => hb x (List.mem_of_mem_take hx)) l1, fits_pack (fun x hx => hb x (List.mem_of_mem_drop hx)) l2, pack_small l1, pack_small l2⟩
  · rw [catOf_ok (goodB_pack l1) (goodB_pack l2) (by rw [bytesOf_pack, bytesOf_pack, ← List.length_append, List.take_append_drop]; exact hl), bytesOf_pack, bytesOf_pack, List.take_append_drop, goodB_eq hg]
  · rw [totalOf_good (goodB_pack l1), bytesOf_pack, List.length_take]; omega

theorem undone_ok {l m : List RunP} (hf : Fits l) (hf2 : Fits m) {F T : Nat} (hw : withinB l F T = true) (hg2 : goodB m = true) (hbig : ((bytesOf l).length : Int) - ((T : Int) - F) + ((bytesOf m).length : Int) ≤ 4096) :
    ∃ O X : List RunP, sliceOf l F T = (O, 0) ∧ spliceOf l F T m = (X, 0) ∧ sliceOf X F ((F : Int) + (totalOf m : Nat)) = (m, 0) ∧ spliceOf X F ((F : Int) + (totalOf m : Nat)) O = (l, 0) ∧ Fits O ∧ Fits X ∧ O.length ≤ maxLen ∧ X.length ≤ maxLen := by
  obtain ⟨hg, h0, h1, h2, hl, hs⟩ := within_of hw
  have hm : (bytesOf m).length ≤ 4096 := by rw [bytesOf_len]; exact ((goodB_iff m).1 hg2).1
  have hb := bytes_lt hf
  have ht2 := totalOf_good hg2
  have hc := cut_len h0 h1 h2
  have hO : (cut (bytesOf l) F T).length ≤ 4096 := by omega
  have hX := splice_size (m := bytesOf m) h0 h1 h2
  rw [Int.toNat_natCast, Int.toNat_natCast] at hX
  have hX4 : ((bytesOf l).take F ++ bytesOf m ++ (bytesOf l).drop T).length ≤ 4096 := by omega
  have eO : sliceOf l F T = (pack (cut (bytesOf l) F T), 0) := if_pos hw
  have eX : spliceOf l F T m = (pack ((bytesOf l).take F ++ bytesOf m ++ (bytesOf l).drop T), 0) := by
    rw [spliceOf_ok hw hg2 hbig, Int.toNat_natCast, Int.toNat_natCast]
  have gX := goodB_pack hX4
  have bX := bytesOf_pack ((bytesOf l).take F ++ bytesOf m ++ (bytesOf l).drop T)
  have tX := totalOf_good gX
  rw [bX] at tX
  have hF : ((bytesOf l).take F).length = F := by rw [List.length_take]; omega
  have hwX : withinB (pack ((bytesOf l).take F ++ bytesOf m ++ (bytesOf l).drop T)) F ((F : Int) + (totalOf m : Nat)) = true :=
    (within_iff _ _ _).2 ⟨gX, by omega, by omega, by rw [tX, ht2]; omega⟩
  refine ⟨_, _, eO, eX, ?_, ?_, fits_pack (cut_mem hb) hO, fits_pack (mem_append_lt (mem_append_lt (fun x hx => hb x (List.mem_of_mem_take hx)) (bytes_lt hf2)) (fun x hx => hb x (List.mem_of_mem_drop hx))) hX4, pack_small hO, pack_small hX4⟩
  · unfold sliceOf
    rw [if_pos hwX, bX, ht2]
    have : cut ((bytesOf l).take F ++ bytesOf m ++ (bytesOf l).drop T) F ((F : Int) + ((bytesOf m).length : Nat)) = bytesOf m := by
      unfold cut
      rw [Int.toNat_natCast, show ((F : Int) + ((bytesOf m).length : Nat) - (F : Int)).toNat = (bytesOf m).length by omega, List.append_assoc, List.drop_append_of_le_length (by omega), List.drop_of_length_le (by omega), List.nil_append, List.take_append_of_le_length (by omega), List.take_length]
    rw [this, goodB_eq hg2]
  · have e1 : ((bytesOf l).take F ++ bytesOf m ++ (bytesOf l).drop T).take F = (bytesOf l).take F := by
      rw [List.append_assoc, List.take_append_of_le_length (by omega), List.take_of_length_le (by omega)]
    have e2 : ((bytesOf l).take F ++ bytesOf m ++ (bytesOf l).drop T).drop (F + (bytesOf m).length) = (bytesOf l).drop T := by
      have : (F + (bytesOf m).length) = ((bytesOf l).take F ++ bytesOf m).length := by rw [List.length_append, hF]
      rw [this, List.drop_left]
    have hT : ((F : Int) + ((bytesOf m).length : Nat)).toNat = F + (bytesOf m).length := by omega
    rw [spliceOf_ok hwX (goodB_pack hO) (by rw [bX, bytesOf_pack, ht2]; omega), bX, bytesOf_pack, Int.toNat_natCast, ht2, hT, e1, e2]
    have e3 : (bytesOf l).take F ++ cut (bytesOf l) F T ++ (bytesOf l).drop T = bytesOf l := by
      unfold cut
      rw [Int.toNat_natCast, show ((T : Int) - (F : Int)).toNat = T - F by omega]
      have e4 : (bytesOf l).take F ++ ((bytesOf l).drop F).take (T - F) = (bytesOf l).take T := by
        rw [← List.take_add, show F + (T - F) = T by omega]
      rw [e4, List.take_append_drop]
    rw [e3, goodB_eq hg]
theorem undone_no {l m : List RunP} {f t : Int} (h : ¬ (withinB l f t = true ∧ goodB m = true ∧ ((bytesOf l).length : Int) - (t - f) + ((bytesOf m).length : Int) ≤ 4096)) :
    (sliceOf l f t = ([], 2) ∧ spliceOf l f t m = ([], 2)) ∨ (∃ O, sliceOf l f t = (O, 0) ∧ spliceOf l f t m = ([], 2)) ∨ (∃ O, sliceOf l f t = (O, 0) ∧ spliceOf l f t m = ([], 3)) := by
  by_cases hw : withinB l f t = true
  · right
    by_cases hg : goodB m = true
    · right
      exact ⟨_, if_pos hw, spliceOf_big hw hg (fun hb => h ⟨hw, hg, hb⟩)⟩
    · left
      exact ⟨_, if_pos hw, spliceOf_bad (fun hb => hg hb.2)⟩
  · left
    exact ⟨if_neg hw, spliceOf_bad (fun hb => hw hb.1)⟩
end Go.Proofs.YtgmeamefbfgbgaaDoor

/-
  Merged: RunOwn, RunOwnAsk, RunAdd, RunPart, RunMerged, RunEach, RunEachN, RunEachS, RunOwnSplice, RunOwnCat, RunEachR.
-/
import Derived.Test.YtgmeamefbfgbgaaDoorM03
import Derived.Deep.RegionHeld3
import Derived.Deep.DeepCutAuto
import Derived.StillTailTactics
/-
  Contracts of the landed package runs: Total, Good, within.
-/
namespace Go.Proofs.YtgmeamefbfgbgaaDoor
set_option maxRecDepth 100000
open Go.RowKit

set_option maxHeartbeats 1000000 in
theorem runTotal_any (A : Option Addr) (c B : Nat) (l : List RunP) (hf : Fits l) (hlen : l.length ≤ maxLen) (w : World) (hB : B ≤ w.heap.size) (h : Row w B A (flatR l)) :
    Calls Tryd.prog 74 #[.slice A l.length c] w fun e w' => e = .returned (.int .i64 (totalOf l : Nat)) ∧ Below w.heap.size w w' := by
  unfold maxLen at hlen
  have HF := Lib.hid hf
  clear hf
  go_enter Tryd.func74, Tryd.ntmps74
  go_wp2
  go_loopw [3, 8] (fun n i wr => ∃ k : Nat, k ≤ l.length ∧ i = .int .i64 k ∧ n = .int .i64 (sumN (l.take k) : Nat) ∧ sumN (l.take k) ≤ 4096 ∧ Below w.heap.size w wr) (fun _ i _ => l.length - (intOf i).toNat)
  case atStart => exact ⟨0, Nat.zero_le _, rfl, rfl, by simp [sumN], Below.refl _ _⟩
  case round =>
    obtain ⟨k, hk, rfl, rfl, hn, hb⟩ := hrel
    have z := hb.size
    by_cases hlt : k < l.length
    · obtain ⟨ad, rfl, hbl, c0, c1⟩ := run_cells (h.below (hb.mono hB)) hlt
      have hfk := HF.out l[k] (List.getElem_mem hlt)
      have hs1 := sumN_succ l k hlt
      have hle := sumN_take_le l (k + 1)
      generalize l[k] = r at *
      obtain ⟨x, n⟩ := r
      dsimp only at *
      have HS := Lib.hid hs1
      clear hs1
      by_cases hbig : n ≥ 4097 - (sumN (l.take k) : Int)
      · have HT : Hid (totalOf l = 4097) := by
          show totalOf l = 4097
          have := HS.out
          unfold totalOf; rw [if_neg (by omega)]
        clear hle
        go_wp2
        go_ret
        exact ⟨by rw [HT.out]; rfl, hb.alloc z _⟩
      · by_cases hpos : 0 ≤ n
        · have hm : max n 0 = n := by omega
          go_wp2
          go_roundw
          case rel =>
            have := HS.out
            exact ⟨k + 1, by omega, by go_num, by rw [HS.out]; congr 1; omega, by omega, hb.alloc z _⟩
          case measure => simp [intOf]; omega
        · have hm : max n 0 = 0 := by omega
          go_wp2
          go_roundw
          case rel =>
            have := HS.out
            exact ⟨k + 1, by omega, by go_num, by rw [HS.out]; congr 1; omega, by omega, hb.alloc z _⟩
          case measure => simp [intOf]; omega
    · obtain rfl : k = l.length := by omega
      rw [List.take_length] at hn
      go_wp2
      go_ret
      exact ⟨by rw [List.take_length]; unfold totalOf; rw [if_pos hn]; rfl, hb⟩

set_option maxHeartbeats 600000 in
theorem runGood_any (A : Option Addr) (c B : Nat) (l : List RunP) (hf : Fits l) (hlen : l.length ≤ maxLen) (w : World) (hB : B ≤ w.heap.size) (h : Row w B A (flatR l)) :
    Calls Tryd.prog 73 #[.slice A l.length c] w fun e w' => e = .returned (.bool (goodB l)) ∧ Below w.heap.size w w' := by
  have hlen0 := hlen
  unfold maxLen at hlen
  have HF := Lib.hid hf
  clear hf
  go_enter Tryd.func73, Tryd.ntmps73
  go_wp2
  go_loopw [7] (fun i wr => ∃ k : Nat, k ≤ l.length ∧ i = .int .i64 k ∧ Hid (Neat (l.take k)) ∧ Below w.heap.size w wr) (fun i _ => l.length - (intOf i).toNat)
  case atStart => exact ⟨0, Nat.zero_le _, rfl, .nil, Below.refl _ _⟩
  case round =>
    obtain ⟨k, hk, rfl, HN, hb⟩ := hrel
    have z := hb.size
    by_cases hlt : k < l.length
    · obtain ⟨ad, rfl, hbl, c0, c1⟩ := run_cells (h.below (hb.mono hB)) hlt
      have hfk := HF.out l[k] (List.getElem_mem hlt)
      by_cases h1 : l[k].2 < 1
      · have HG2 := Lib.hid (goodB_no hlt (.inl h1))
        generalize l[k] = r at *
        obtain ⟨x, n⟩ := r
        dsimp only at *
        go_wp2
        go_quiet (fail)
        go_wp2
        go_ret
        exact ⟨by rw [HG2.out]; rfl, below_drewN (hb.alloc z _) _⟩
      · by_cases h0 : 0 < k
        · obtain ⟨j, rfl⟩ : ∃ j, k = j + 1 := ⟨k - 1, by omega⟩
          obtain ⟨ad', e', hbl', d0, d1⟩ := run_cells (h.below (hb.mono hB)) (k := j) (by omega)
          cases e'
          have HG : Hid ((l[j]'(by omega)).1 = l[j + 1].1 → goodB l = false) := fun e => goodB_no hlt (.inr ⟨by omega, e⟩)
          have HT : Hid ((l[j]'(by omega)).1 ≠ l[j + 1].1 → Neat (l.take (j + 1 + 1))) := fun e => neat_take HN.out hlt (by omega) (fun _ => e)
          have hwj := wrap_small (j : Int) (by omega) (by omega)
          have hjl : j < l.length := by omega
          generalize l[j] = q at *
          generalize l[j + 1] = r at *
          obtain ⟨x, n⟩ := r
          obtain ⟨y, m⟩ := q
          dsimp only at *
          have hd1 : decide (n < 1) = false := decide_eq_false h1
          have hbb : (ad.add (j * 2)).block < wr.heap.size := by rw [add_block]; omega
          by_cases hxy : y = x
          · have HG2 := Lib.hid (HG.out hxy)
            clear HG HT
            subst hxy
            go_wp2
            go_quiet (fail)
            go_wp2
            go_ret
            exact ⟨by rw [HG2.out]; rfl, below_drewN (hb.alloc z _) _⟩
          · have HT2 := Lib.hid (HT.out hxy)
            clear HG HT
            have ht : ((y : Int) == (x : Int)) = false := by simp; omega
            go_wp2
            go_quiet (fail)
            go_wp2
            go_roundw
            case rel => exact ⟨j + 1 + 1, by omega, by go_num, HT2, below_drewN (hb.alloc z _) _⟩
            case measure => simp [intOf]; omega
        · have HT2 := Lib.hid (neat_take HN.out hlt (by omega) (fun h => absurd h h0))
          generalize l[k] = r at *
          obtain ⟨x, n⟩ := r
          dsimp only at *
          have hd1 : decide (n < 1) = false := decide_eq_false h1
          obtain rfl : k = 0 := by omega
          have hz : ad.add (0 * 2) = ad := rfl
          rw [hz] at c0 c1
          clear hz
          go_wp2
          go_quiet (fail)
          go_wp2
          go_roundw
          case rel => exact ⟨0 + 1, by omega, by go_num, HT2, below_drewN (hb.alloc z _) _⟩
          case measure => simp [intOf]; omega
    · obtain rfl : k = l.length := by omega
      rw [List.take_length] at HN
      have HG := Lib.hid (goodB_neat HN.out)
      go_wp2_with (go_at_call 74; refine (runTotal_any A c B l HF.out hlen0 wr (by omega) (h.below (hb.mono hB))).mono ?_; rintro e w1 ⟨rfl, hb1⟩)
      go_ret
      exact ⟨by rw [HG.out]; rfl, hb.trans (hb1.mono z)⟩

set_option maxHeartbeats 1000000 in
theorem runWithin_any (A : Option Addr) (c B : Nat) (l : List RunP) (f t : Int) (hf : Fits l) (hlen : l.length ≤ maxLen) (w : World) (hB : B ≤ w.heap.size) (h : Row w B A (flatR l)) :
    Calls Tryd.prog 87 #[.slice A l.length c, .int .i64 f, .int .i64 t] w fun e w' => e = .returned (.bool (withinB l f t)) ∧ Below w.heap.size w w' := by
  have HF := Lib.hid hf
  clear hf
  have hle := totalOf_le l
  go_enter Tryd.func87, Tryd.ntmps87
  go_wp2_with (first
    | (go_at_call 73; refine (runGood_any A c B l HF.out hlen _ hB h).mono ?_; rintro e w1 ⟨rfl, hb1⟩; have z1 := hb1.size)
    | (go_at_call 74; refine (runTotal_any A c B l HF.out hlen _ (by omega) (h.below (hb1.mono hB))).mono ?_; rintro e w2 ⟨rfl, hb2⟩; have z2 := hb2.size))
  all_goals go_ret
  all_goals refine ⟨?_, by first | exact hb1 | exact hb1.trans (hb2.mono z1)⟩
  all_goals show Ending.returned (Value.bool _) = _
  all_goals first | (simp [withinB, *]; done) | (simp [withinB, *]; omega)
end Go.Proofs.YtgmeamefbfgbgaaDoor

/-
  Contracts of the landed package runs: At, All.
-/
namespace Go.Proofs.YtgmeamefbfgbgaaDoor
set_option maxRecDepth 100000
open Go.RowKit

end Go.Proofs.YtgmeamefbfgbgaaDoor

/-
  The closure that gathers runs (merged's): layer 3.
-/
namespace Go.Proofs.YtgmeamefbfgbgaaDoor
set_option maxRecDepth 100000
open Go.RowKit

/-- n bytes more of one label, onto a packed list -/
theorem pack_more (b : List Nat) (x : Nat) (n : Nat) (hn : 1 ≤ n) : pack (b ++ List.replicate n x) =
    match (pack b).getLast? with
    | none => [(x, (n : Int))]
    | some r => if r.1 = x then (pack b).dropLast ++ [(x, r.2 + n)] else pack b ++ [(x, (n : Int))] := by
  rcases snoc_cases (pack b) with e | ⟨m, r, e⟩
  · have hb : b = [] := by have := bytesOf_pack b; rw [e] at this; exact this.symm
    subst hb
    rw [e]
    have := pack_replicate (b := []) (l := []) rfl x n (fun m r e => by simp at e) hn
    simpa using this
  · rw [e, List.getLast?_concat]
    dsimp only
    by_cases hx : r.1 = x
    · rw [if_pos hx, List.dropLast_concat]
      have key : ∀ n, 1 ≤ n → pack (b ++ List.replicate n x) = m ++ [(x, r.2 + (n : Nat))] := by
        intro n
        induction n with
        | zero => intro h; omega
        | succ n ih =>
          intro _
          rw [List.replicate_succ', ← List.append_assoc, pack_snoc]
          by_cases h0 : n = 0
          · subst h0
            rw [List.replicate_zero, List.append_nil, e, packStep_snoc, if_pos hx]; rfl
          · rw [ih (by omega), packStep_snoc, if_pos rfl]
            congr 2
            exact Prod.ext rfl (by show r.2 + (n : Int) + 1 = r.2 + ((n + 1 : Nat) : Int); omega)
      exact key n hn
    · rw [if_neg hx]
      exact pack_replicate e x n (fun m' r' e' => by have : r = r' := by simpa using (List.append_inj' e' rfl).2
                                                     subst this; exact hx) hn
theorem pack_more_nil {b : List Nat} (x n : Nat) (hn : 1 ≤ n) (e : pack b = []) : pack (b ++ List.replicate n x) = [(x, (n : Int))] := by
  rw [pack_more b x n hn, e]; rfl
theorem pack_more_same {b : List Nat} {m : List RunP} {r : RunP} (n : Nat) (hn : 1 ≤ n) (e : pack b = m ++ [r]) : pack (b ++ List.replicate n r.1) = m ++ [(r.1, r.2 + n)] := by
  rw [pack_more b r.1 n hn, e, List.getLast?_concat]
  dsimp only
  rw [if_pos rfl, List.dropLast_concat]
theorem pack_more_other {b : List Nat} {m : List RunP} {r : RunP} (x n : Nat) (hn : 1 ≤ n) (e : pack b = m ++ [r]) (hx : r.1 ≠ x) : pack (b ++ List.replicate n x) = m ++ [r] ++ [(x, (n : Int))] := by
  rw [pack_more b x n hn, e, List.getLast?_concat]
  dsimp only
  rw [if_neg hx]

/-- what has been gathered: the variable 'list' in block g, its runs in a row of the call's own -/
def Gath (w : World) (base g : Nat) (b : List Nat) : Prop :=
  g < base ∧ base ≤ w.heap.size ∧ ∃ v, Blk w g 22 #[v] ∧ w.ownsRow base 51 2 v (pack b).length (flatR (pack b))
theorem Gath.alloc {w : World} {base g : Nat} {b : List Nat} (h : Gath w base g b) (o : Obj) : Gath (w.alloc o) base g b := by
  obtain ⟨h1, h2, v, h3, h4⟩ := h
  exact ⟨h1, by rw [World.size_alloc]; omega, v, h3.alloc o, h4.alloc o⟩
theorem Gath.drewN {w : World} {base g : Nat} {b : List Nat} (h : Gath w base g b) (n : Nat) : Gath (w.drewN n) base g b := by
  obtain ⟨h1, h2, v, h3, h4⟩ := h
  exact ⟨h1, h2, v, h3, own_keep h4 (below_drewN (Below.refl _ w) n) (Nat.le_refl _)⟩
/-- nothing is turned but the list's own, and what lies above -/
def Kept (_base g : Nat) (w w' : World) : Prop := Below g w w' ∧ ∀ k T cs, Blk w k T cs → k ≠ g → T ≠ 51 → Blk w' k T cs
theorem Kept.refl (base g : Nat) (w : World) : Kept base g w w := ⟨Below.refl _ _, fun _ _ _ h _ _ => h⟩
theorem Kept.trans {base g : Nat} {a b c : World} (h : Kept base g a b) (k : Kept base g b c) : Kept base g a c :=
  ⟨h.1.trans k.1, fun i T cs hb hi hT => k.2 i T cs (h.2 i T cs hb hi hT) hi hT⟩
theorem Kept.alloc {base g : Nat} {a b : World} (h : Kept base g a b) (hg : g ≤ b.heap.size) (o : Obj) : Kept base g a (b.alloc o) :=
  ⟨h.1.alloc hg o, fun i T cs hb hi hT => (h.2 i T cs hb hi hT).alloc o⟩
theorem Kept.drewN {base g : Nat} {a b : World} (h : Kept base g a b) (n : Nat) : Kept base g a (b.drewN n) :=
  ⟨below_drewN h.1 n, fun i T cs hb hi hT => h.2 i T cs hb hi hT⟩

theorem own_setFar {w : World} {base e size n : Nat} {v : Value} {xs : List Value} (h : w.ownsRow base e size v n xs) {p : Addr} (hp : p.block < base) (u : Value) : (w.setCell p u).ownsRow base e size v n xs := by
  refine ⟨h.1, ?_⟩
  rcases h.2 with h | ⟨g, cap, cur, rfl, hg, hh, h⟩
  · exact .inl h
  · exact .inr ⟨g, cap, cur, rfl, hg, (heap_setCell_other w p g u (by omega)).trans hh, h⟩
theorem own_notBlk {w : World} {base e size n : Nat} {v : Value} {xs : List Value} (h : w.ownsRow base e size v n xs) {k T : Nat} {cs : Array Value} (hb : Blk w k T cs) (hT : T ≠ e) : v.ownBlock ≠ some k := by
  rcases h.2 with ⟨rfl, _⟩ | ⟨g, cap, cur, rfl, hg, hh, _⟩
  · simp [Value.ownBlock]
  · intro e1
    have : g = k := by simpa [Value.ownBlock] using e1
    subst this
    unfold Blk at hb
    rw [hh] at hb
    simp at hb
    exact hT hb.2.symm
theorem own_notLow {w : World} {base e size n : Nat} {v : Value} {xs : List Value} (h : w.ownsRow base e size v n xs) {k : Nat} (hk : k < base) : v.ownBlock ≠ some k := by
  intro e1
  have := (h.lt k e1).1
  omega
theorem own_low {w : World} {base e size n c : Nat} {A : Option Addr} {xs : List Value} (h : w.ownsRow base e size (.slice A n c) n xs) {k : Nat} (hk : k < base) (n' : Nat) : (Value.slice A n' c).ownBlock ≠ some k := by
  have := own_notLow h hk
  cases A with
  | none => simp [Value.ownBlock]
  | some a => simpa [Value.ownBlock] using this
theorem size_after (w : World) (o : Obj) (k : Nat) : w.heap.size + 1 = ((w.alloc o).drewN k).heap.size := by show _ = (w.alloc o).heap.size; simp
/-- the way of a run that is laid behind -/
theorem gath_push {w w3 : World} {base g n : Nat} {b' : List Nat} {v v3 : Value} {o : Obj} {k : Nat} {xs : List Value} (h1 : g < base) (h2 : base ≤ w.heap.size) (hv : Blk w g 22 #[v]) (hown : w.ownsRow base 51 2 v n xs)
    (hb3 : Below base ((w.alloc o).drewN k) w3) (hfar : ∀ i, i < ((w.alloc o).drewN k).heap.size → v.ownBlock ≠ some i → w3.heap[i]? = ((w.alloc o).drewN k).heap[i]?)
    (hown3 : w3.ownsRow base 51 2 v3 (pack b').length (flatR (pack b'))) :
    Gath (w3.setCell ⟨g, 0, none⟩ v3) base g b' ∧ Kept base g w (w3.setCell ⟨g, 0, none⟩ v3) := by
  have hz : ((w.alloc o).drewN k).heap.size = w.heap.size + 1 := by show (w.alloc o).heap.size = _; simp
  have hs := hb3.size
  have hv3 : Blk w3 g 22 #[v] := (hfar g (by omega) (own_notLow hown h1)).trans (hv.alloc o)
  refine ⟨⟨h1, ?_, v3, ?_, own_setFar hown3 h1 _⟩, ?_, ?_⟩
  · have : (w3.setCell ⟨g, 0, none⟩ v3).heap.size = w3.heap.size := by simp
    omega
  · simpa using hv3.set_ 0 v3
  · have e1 : Below g w ((w.alloc o).drewN k) := below_drewN ((Below.refl g w).alloc (by omega) o) k
    exact (e1.trans (hb3.mono (by omega))).setCell (by show g ≤ g; omega) _
  · intro i T cs hb hi hT
    have hb' : Blk w3 i T cs := (hfar i (by have := hb.lt; omega) (own_notBlk hown hb hT)).trans (hb.alloc o)
    exact hb'.far hi _

/-- the way of a run that is added to the last one -/
theorem gath_add {w : World} {base g g1 c : Nat} {m : List RunP} {r : RunP} (h1 : g < base) (h2 : base ≤ w.heap.size) (hv : Blk w g 22 #[.slice (some ⟨g1, 0, none⟩) (m.length + 1) c])
    (hown : w.ownsRow base 51 2 (.slice (some ⟨g1, 0, none⟩) (m.length + 1) c) (m.length + 1) (flatR (m ++ [r]))) (o : Obj) (k : Nat) (n : Int) (b' : List Nat) (hp : pack b' = m ++ [(r.1, n)]) :
    Gath (((w.alloc o).drewN k).setCell ⟨g1, m.length * 2 + 1, none⟩ (.int .i64 n)) base g b' ∧ Kept base g w (((w.alloc o).drewN k).setCell ⟨g1, m.length * 2 + 1, none⟩ (.int .i64 n)) := by
  have hz : ((w.alloc o).drewN k).heap.size = w.heap.size + 1 := (size_after w o k).symm
  have hg1 : base ≤ g1 := (hown.lt g1 rfl).1
  have hd : ((w.alloc o).drewN k).ownsRow base 51 2 (.slice (some ⟨g1, 0, none⟩) (m.length + 1) c) (m.length + 1) (flatR (m ++ [r])) := own_keep (hown.alloc o) (below_drewN (Below.refl _ _) k) (Nat.le_refl _)
  refine ⟨⟨h1, ?_, .slice (some ⟨g1, 0, none⟩) (m.length + 1) c, ?_, ?_⟩, ?_, ?_⟩
  · have : (((w.alloc o).drewN k).setCell ⟨g1, m.length * 2 + 1, none⟩ (.int .i64 n)).heap.size = ((w.alloc o).drewN k).heap.size := by simp
    omega
  · exact Blk.far (hv.alloc o : Blk ((w.alloc o).drewN k) _ _ _) (by show g ≠ g1; omega) _
  · rw [hp]
    have := own_set hd (m.length * 2 + 1) (.int .i64 n)
    rw [flatR_set] at this
    simpa using this
  · have e1 : Below g w ((w.alloc o).drewN k) := below_drewN ((Below.refl g w).alloc (by omega) o) k
    exact e1.setCell (by show g ≤ g1; omega) _
  · intro i T cs hb hi hT
    exact Blk.far (hb.alloc o : Blk ((w.alloc o).drewN k) _ _ _) (fun e => own_notBlk hown hb hT (by show some g1 = some i; rw [e])) _

set_option maxHeartbeats 1000000 in
theorem runAdd_any (base g : Nat) (b : List Nat) (x : Nat) (n : Int) (hx : x < 18446744073709551616) (hn : -9223372036854775808 ≤ n ∧ n ≤ 1000000) (hb : b.length ≤ 1000000) (w : World) (h : Gath w base g b) :
    Calls Tryd.prog 97 #[.agg #[.int .u64 x, .int .i64 n], .pointer (some ⟨g, 0, none⟩)] w fun e w' => e = .returned (.tuple #[]) ∧ Gath w' base g (b ++ List.replicate n.toNat x) ∧ Kept base g w w' := by
  have HH := Lib.hid h
  obtain ⟨h1, h2, v, hv, hown⟩ := h
  have cv := hv.cell 0
  simp at cv
  obtain ⟨A1, c1, rfl⟩ := own_form hown
  have hgw : g < w.heap.size := by omega
  have hpl := pack_len b
  by_cases hn0 : n ≤ 0
  · go_enter Tryd.func97, Tryd.ntmps97
    go_wp2
    go_end0
    refine ⟨rfl, ?_, (Kept.refl base g w).alloc (by omega) _⟩
    rw [show n.toNat = 0 by omega, List.replicate_zero, List.append_nil]
    exact HH.out.alloc _
  · obtain ⟨N, rfl⟩ : ∃ N : Nat, n = (N : Int) := ⟨n.toNat, by omega⟩
    have hN : 1 ≤ N := by omega
    have hN2 : N ≤ 1000000 := by omega
    clear hn
    rw [Int.toNat_natCast]
    rcases snoc_cases (pack b) with e | ⟨m, r, e⟩
    · have HP := Lib.hid (pack_more_nil x N hN e)
      have HO : Hid (w.ownsRow base 51 2 (.slice A1 (pack b).length c1) (pack b).length (flatR (pack b))) := hown
      rw [e] at hown cv hv
      have HE := Lib.hid e
      clear e hpl
      have HD : Hid (∀ k, ((w.alloc (.cells #[.int .u64 (x : Nat), .int .i64 (N : Int)] 51)).drewN k).ownsRow base 51 2 (.slice A1 0 c1) 0 (flatR [])) := fun k => by
        have := own_keep (hown.alloc (.cells #[.int .u64 (x : Nat), .int .i64 (N : Int)] 51)) (below_drewN (Below.refl _ _) k) (Nat.le_refl _)
        exact this
      go_enter Tryd.func97, Tryd.ntmps97
      go_wp2
      go_quiet (fail)
      go_wp2_with (at_builtin; go_loud ((refine wpList_pushN rfl _ _ _ rfl base 51 _ 2 16 elt_run 51 (.slice A1 0 c1) 0 (flatR []) rfl (HD.out _) [.int .u64 (x : Nat), .int .i64 (N : Int)] (w.heap.size + 1) (size_after _ _ _) rfl rfl (by simp [Value.oneCell']) (by unfold maxLen; omega) (by omega) (by rw [← size_after]; omega) ?_); intro v3 w3 hown3 hb3 hfar3; obtain ⟨A3, c3, rfl⟩ := own_form hown3; have hv3 := (hfar3 g (by rw [← size_after]; omega) (own_low HO.out h1 _)).trans (hv.alloc _); have cv3 := Blk.cell hv3 0; have fv3 := Blk.frozen hv3 0; have HF3 := Lib.hid hfar3; clear hfar3))
      go_end0
      exact ⟨rfl, gath_push h1 h2 hv hown hb3 HF3.out (by rw [HP.out]; exact hown3)⟩
    · have hlm : (m ++ [r]).length = m.length + 1 := by simp
      have HO : Hid (w.ownsRow base 51 2 (.slice A1 (pack b).length c1) (pack b).length (flatR (pack b))) := hown
      rw [e] at hown hpl hv cv
      rw [hlm] at hown hpl hv cv
      have HLM := Lib.hid hlm
      clear hlm
      obtain ⟨g1, c1', e1, hg1, hg2⟩ := own_at hown (by omega)
      injection e1 with e2 e3 e4
      subst e2 e4
      clear e3
      have hwm := wrap_small (m.length : Int) (by omega) (by omega)
      obtain ⟨ad', e', _, k0, k1⟩ := run_cells (Row.of_own hown) (k := m.length) (by rw [HLM.out]; omega)
      cases e'
      rw [show (m ++ [r])[m.length]'(by rw [HLM.out]; omega) = r by simp] at k0 k1
      have hfz := own_frozen hown (m.length * 2 + 1)
      rw [← base_field] at hfz
      have hbb : ((⟨g1, 0, none⟩ : Addr).add (m.length * 2)).block < w.heap.size := by rw [add_block]; exact hg2
      have HE := Lib.hid e
      have HK := Lib.hid (gath_add (m := m) (r := r) h1 h2 hv hown)
      have HV := Lib.hid hv
      have HW := Lib.hid hown
      clear e hv hown
      have hr2 : 1 ≤ r.2 ∧ r.2 ≤ 1000000 := by have := pack_last_le HE.out; omega
      have hws := wrap_small (r.2 + N) (by omega) (by omega)
      by_cases hrx : r.1 = x
      · subst hrx
        have HP := Lib.hid (pack_more_same N hN HE.out)
        rw [← base_field] at HK
        generalize hg1e : (⟨g1, 0, none⟩ : Addr) = ad1 at *
        have HG := Lib.hid hg1e
        clear hg1e
        go_enter Tryd.func97, Tryd.ntmps97
        go_wp2
        go_quiet (fail)
        go_wp2
        go_region
        go_wp2
        go_end0
        exact ⟨rfl, HK.out _ _ _ _ HP.out⟩
      · have HP := Lib.hid (pack_more_other x N hN HE.out hrx)
        have ht : ((r.1 : Int) == (x : Int)) = false := by simp; omega
        have HD : Hid (∀ k, ((w.alloc (.cells #[.int .u64 (x : Nat), .int .i64 (N : Int)] 51)).drewN k).ownsRow base 51 2 (.slice (some ⟨g1, 0, none⟩) (m.length + 1) c1) (m.length + 1) (flatR (m ++ [r]))) := fun k => by
          have := own_keep (HW.out.alloc (.cells #[.int .u64 (x : Nat), .int .i64 (N : Int)] 51)) (below_drewN (Below.refl _ _) k) (Nat.le_refl _)
          exact this
        have HL := Lib.hid (own_low HW.out h1)
        generalize hg1e : (⟨g1, 0, none⟩ : Addr) = ad1 at *
        have HG := Lib.hid hg1e
        clear hg1e HK
        go_enter Tryd.func97, Tryd.ntmps97
        go_wp2
        go_quiet (fail)
        go_wp2_with (at_builtin; go_loud ((refine wpList_pushN rfl _ _ _ rfl base 51 _ 2 16 elt_run 51 (.slice (some ad1) (m.length + 1) c1) (m.length + 1) (flatR (m ++ [r])) rfl (HD.out _) [.int .u64 (x : Nat), .int .i64 (N : Int)] (w.heap.size + 1) (size_after _ _ _) rfl rfl (by simp [Value.oneCell']) (by unfold maxLen; omega) (by omega) (by rw [← size_after]; omega) ?_); intro v3 w3 hown3 hb3 hfar3; obtain ⟨A3, c3, rfl⟩ := own_form hown3; have hv3 := (hfar3 g (by rw [← size_after]; omega) (HL.out _)).trans (HV.out.alloc _); have cv3 := Blk.cell hv3 0; have fv3 := Blk.frozen hv3 0; have HF3 := Lib.hid hfar3; clear hfar3))
        go_end0
        exact ⟨rfl, gath_push h1 h2 HV.out HW.out hb3 HF3.out (by rw [HP.out, List.length_append, HLM.out, flatR_snoc]; exact hown3)⟩
end Go.Proofs.YtgmeamefbfgbgaaDoor

/-
  The runs of some bytes, passed on one by one: layer 3.
-/
namespace Go.Proofs.YtgmeamefbfgbgaaDoor
set_option maxRecDepth 100000
open Go.RowKit

theorem cut_more (b : List Nat) (x N : Nat) (f t : Int) (h0 : 0 ≤ f) (h1 : f ≤ t) : cut (b ++ List.replicate N x) f t = cut b f t ++ List.replicate (min ((b.length : Int) + N) t - max (b.length : Int) f).toNat x := by
  unfold cut
  rw [List.drop_append, List.take_append, List.drop_replicate, List.take_replicate, List.length_drop]
  congr 2
  omega
theorem cut_nil (f t : Int) : cut [] f t = [] := by simp [cut]

set_option maxHeartbeats 1000000 in
theorem runPart_any (fn : Nat) (hent : ∀ (args : Array Value) (w : World), Sem.run Tryd.prog (callFunc fn args) w = .ok (.enter fn args) w) (cap : Array Value) (base g : Nat) (φ : Nat → Nat) (I : World → List Nat → Prop) (hal : ∀ w b o, I w b → I (w.alloc o) b) (hsz : ∀ w b, I w b → g ≤ w.heap.size)
    (hcall : ∀ (b : List Nat) (x : Nat) (n : Int) (w : World), b.length ≤ 100000 → x < 18446744073709551616 → -10000 ≤ n ∧ n ≤ 10000 → I w b →
      Calls Tryd.prog fn (#[.agg #[.int .u64 x, .int .i64 n]] ++ cap) w fun e w' => e = .returned (.tuple #[]) ∧ I w' (b ++ List.replicate n.toNat (φ x)) ∧ Kept base g w w')
    (A : Option Addr) (c B : Nat) (l : List RunP) (f t : Int) (hf : Fits l) (hlen : l.length ≤ maxLen) (hs : sumN l ≤ 4096) (hn : ∀ r ∈ l, 0 ≤ r.2) (h0 : 0 ≤ f) (h1 : f ≤ t) (h2 : t ≤ 4096) (b : List Nat) (hb : b.length ≤ 90000)
    (w : World) (hI : I w b) (hB : B ≤ g) (h : Row w B A (flatR l)) :
    Calls Tryd.prog 89 #[.slice A l.length c, .int .i64 f, .int .i64 t, .func (.func fn) #[] cap] w fun e w' => e = .returned (.tuple #[]) ∧ I w' (b ++ (cut (bytesOf l) f t).map φ) ∧ Kept base g w w' := by
  unfold maxLen at hlen
  have HF := Lib.hid hf
  have HN := Lib.hid hn
  have HC := Lib.hid hcall
  have HA := Lib.hid hal
  have HSZ := Lib.hid hsz
  clear hf hn hcall hal hsz
  go_enter Tryd.func89, Tryd.ntmps89
  go_wp2
  go_loopw [8, 14] (fun s i wr => ∃ k : Nat, k ≤ l.length ∧ i = .int .i64 k ∧ s = .int .i64 (sumN (l.take k) : Nat) ∧ I wr (b ++ (cut (bytesOf (l.take k)) f t).map φ) ∧ Kept base g w wr) (fun _ i _ => l.length - (intOf i).toNat)
  case atStart => exact ⟨0, Nat.zero_le _, rfl, rfl, by simpa [cut_nil, bytesOf] using hI, Kept.refl _ _ _⟩
  case round =>
    obtain ⟨k, hk, rfl, rfl, hI, hb⟩ := hrel
    have z := HSZ.out _ _ hI
    by_cases hlt : k < l.length
    · obtain ⟨ad, rfl, hbl, c0, c1⟩ := run_cells (h.below (hb.1.mono hB)) hlt
      have hfk := HF.out l[k] (List.getElem_mem hlt)
      have hnk := HN.out l[k] (List.getElem_mem hlt)
      have hs1 := sumN_succ l k hlt
      have hle := sumN_take_le l (k + 1)
      have HBS := bytesOf_succ l k hlt
      generalize l[k] = r at *
      obtain ⟨x, n⟩ := r
      dsimp only at *
      have HB : Hid (bytesOf (l.take (k + 1)) = bytesOf (l.take k) ++ List.replicate n.toNat x) := HBS
      have HL := Lib.hid (bytesOf_len (l.take k))
      have HM := Lib.hid (cut_more (bytesOf (l.take k)) x n.toNat f t h0 h1)
      rw [← HB.out, HL.out] at HM
      have HLC : Hid ((b ++ (cut (bytesOf (l.take k)) f t).map φ).length ≤ 100000) := by
        show _ ≤ _
        have := HL.out
        have : (cut (bytesOf (l.take k)) f t).length ≤ (bytesOf (l.take k)).length := by unfold cut; rw [List.length_take, List.length_drop]; omega
        rw [List.length_append, List.length_map]; omega
      have HI := HA.out _ _ (.cells #[.int .u64 (x : Nat), .int .i64 n] 51) hI
      have HX : Hid (x < 18446744073709551616) := hfk.1
      generalize sumN (l.take k) = s at *
      have HS1 := Lib.hid hs1
      have HK := Lib.hid (hb.alloc z (.cells #[.int .u64 (x : Nat), .int .i64 n] 51))
      clear hs1 hI hb
      have hsn : (s : Int) + n ≤ 4096 := by have := HS1.out; omega
      go_wp2_with fail
      all_goals
        refine (HC.out _ x _ _ HLC.out HX.out (by omega) HI).mono ?_
        rintro e w2 ⟨rfl, hI2, hb2⟩
        go_wp2
        go_roundw
        case rel =>
          refine ⟨k + 1, by omega, by go_num, by rw [HS1.out]; congr 1; omega, ?_, HK.out.trans hb2⟩
          rw [HM.out, List.map_append, List.map_replicate, ← List.append_assoc]
          refine (congrArg (fun N => I w2 (b ++ List.map φ (cut (bytesOf (List.take k l)) f t) ++ List.replicate N (φ x))) ?_).mpr hI2
          omega
        case measure => simp [intOf]; omega
    · obtain rfl : k = l.length := by omega
      rw [List.take_length] at hI
      go_wp2
      go_end0
      exact ⟨rfl, hI, hb⟩
end Go.Proofs.YtgmeamefbfgbgaaDoor

/-
  The good list of the runs that are passed: layer 3.
-/
namespace Go.Proofs.YtgmeamefbfgbgaaDoor
set_option maxRecDepth 100000
open Go.RowKit

/-- the closure that gathers into block g -/
def adder (g : Nat) : Value := .func (.func 97) #[] #[.pointer (some ⟨g, 0, none⟩)]

set_option maxHeartbeats 1000000 in
theorem runMerged_any (fn : Nat) (hent : ∀ (args : Array Value) (w : World), Sem.run Tryd.prog (callFunc fn args) w = .ok (.enter fn args) w) (cap : Array Value) (b : List Nat) (w : World)
    (hcall : ∀ w1, Gath w1 (w.heap.size + 1) w.heap.size [] → Below w.heap.size w w1 →
      Calls Tryd.prog fn (#[.func (.func 97) #[] #[.pointer (some ⟨w.heap.size, 0, none⟩)]] ++ cap) w1 fun e w' => e = .returned (.tuple #[]) ∧ Gath w' (w.heap.size + 1) w.heap.size b ∧ Below w.heap.size w1 w') :
    Calls Tryd.prog 84 #[.func (.func fn) #[] cap] w fun e w' => ∃ A c, e = .returned (.slice A (pack b).length c) ∧
      w'.ownsRow w.heap.size 51 2 (.slice A (pack b).length c) (pack b).length (flatR (pack b)) ∧ Below w.heap.size w w' := by
  have HC := Lib.hid (hcall (w.alloc (.cells #[.slice none 0 0] 22)) ⟨by omega, by simp, .slice none 0 0, Blk.new _ _ _, World.ownsRow_nil _ _ _ _⟩ ((Below.refl _ _).alloc (Nat.le_refl _) _))
  clear hcall
  go_enter Tryd.func84, Tryd.ntmps84
  go_wp2_with fail
  refine HC.out.mono ?_
  rintro e w2 ⟨rfl, ⟨g1, g2, v, hv, hown⟩, hb⟩
  obtain ⟨A, c, rfl⟩ := own_form hown
  have cv := hv.cell 0
  simp at cv
  go_wp2
  go_ret
  exact ⟨A, c, rfl, own_base hown (by omega), ((Below.refl _ _).alloc (Nat.le_refl _) _).trans hb⟩
end Go.Proofs.YtgmeamefbfgbgaaDoor

/-
  The landed Slice: layer 3.
-/
namespace Go.Proofs.YtgmeamefbfgbgaaDoor
set_option maxRecDepth 100000
open Go.RowKit

set_option maxRecDepth 100000 in
theorem ent_add (args : Array Value) (w : World) : Sem.run Tryd.prog (callFunc 97 args) w = .ok (.enter 97 args) w := by rfl
set_option maxRecDepth 100000 in
theorem ent_slice (args : Array Value) (w : World) : Sem.run Tryd.prog (callFunc 88 args) w = .ok (.enter 88 args) w := by rfl

theorem goodB_nonneg {l : List RunP} (h : goodB l = true) : ∀ r ∈ l, 0 ≤ r.2 := by
  intro r hr
  obtain ⟨k, hk, rfl⟩ := List.getElem_of_mem hr
  have := ((neat_idx l).1 ((goodB_iff l).1 h).2 k hk).1
  omega

/-- part, onto the list -/
theorem runPartAdd_any (base g : Nat) (A : Option Addr) (c B : Nat) (l : List RunP) (f t : Int) (hf : Fits l) (hlen : l.length ≤ maxLen) (hg : goodB l = true) (h0 : 0 ≤ f) (h1 : f ≤ t) (h2 : t ≤ 4096) (b : List Nat) (hb : b.length ≤ 90000)
    (w : World) (hI : Gath w base g b) (hB : B ≤ g) (h : Row w B A (flatR l)) :
    Calls Tryd.prog 89 #[.slice A l.length c, .int .i64 f, .int .i64 t, .func (.func 97) #[] #[.pointer (some ⟨g, 0, none⟩)]] w fun e w' =>
      e = .returned (.tuple #[]) ∧ Gath w' base g (b ++ cut (bytesOf l) f t) ∧ Kept base g w w' := by
  have := runPart_any 97 ent_add #[.pointer (some ⟨g, 0, none⟩)] base g id (fun w b => Gath w base g b) (fun w b o h => h.alloc o) (fun w b h => by have := h.1; have := h.2.1; omega)
    (fun b x n w hb hx hn hI => runAdd_any base g b x n hx (by omega) (by omega) w hI) A c B l f t hf hlen ((goodB_iff l).1 hg).1 (goodB_nonneg hg) h0 h1 h2 b hb w hI hB h
  simpa only [List.map_id] using this

set_option maxHeartbeats 1000000 in
theorem sliceEach_any (g gl gf gt : Nat) (A : Option Addr) (c B : Nat) (l : List RunP) (f t : Int) (hf : Fits l) (hlen : l.length ≤ maxLen) (hg : goodB l = true) (h0 : 0 ≤ f) (h1 : f ≤ t) (h2 : t ≤ 4096)
    (w : World) (hI : Gath w (g + 1) g []) (hB : B ≤ g) (h : Row w B A (flatR l)) (bl : Blk w gl 22 #[.slice A l.length c]) (bf : Blk w gf 3 #[.int .i64 f]) (bt : Blk w gt 3 #[.int .i64 t]) :
    Calls Tryd.prog 88 #[.func (.func 97) #[] #[.pointer (some ⟨g, 0, none⟩)], .pointer (some ⟨gl, 0, none⟩), .pointer (some ⟨gf, 0, none⟩), .pointer (some ⟨gt, 0, none⟩)] w fun e w' =>
      e = .returned (.tuple #[]) ∧ Gath w' (g + 1) g (cut (bytesOf l) f t) ∧ Below g w w' := by
  have HF := Lib.hid hf
  clear hf
  have k0 := bl.cell 0
  have k1 := bf.cell 0
  have k2 := bt.cell 0
  simp at k0 k1 k2
  go_enter Tryd.func88, Tryd.ntmps88
  go_wp2_with (go_at_call 89; refine (runPartAdd_any (g + 1) g A c B l f t HF.out hlen hg h0 h1 h2 [] (by simp) w hI hB h).mono ?_; rintro e w2 ⟨rfl, hI2, hb2⟩)
  go_end0
  exact ⟨rfl, hI2, hb2.1⟩

set_option maxHeartbeats 1000000 in
theorem runSlice_any (A : Option Addr) (c B : Nat) (l : List RunP) (f t : Int) (hf : Fits l) (hlen : l.length ≤ maxLen) (w : World) (hB : B ≤ w.heap.size) (h : Row w B A (flatR l)) :
    Calls Tryd.prog 78 #[.slice A l.length c, .int .i64 f, .int .i64 t] w (Gives w (sliceOf l f t)) := by
  have HF := Lib.hid hf
  clear hf
  have b3 : Below w.heap.size w (((w.alloc (.cells #[.slice A l.length c] 22)).alloc (.cells #[.int .i64 f] 3)).alloc (.cells #[.int .i64 t] 3)) := (((Below.refl _ w).alloc (Nat.le_refl _) _).alloc (by simp) _).alloc (by simp; omega) _
  have q0 := (((Blk.new w 22 #[.slice A l.length c]).alloc (.cells #[.int .i64 f] 3)).alloc (.cells #[.int .i64 t] 3))
  have q1 := ((Blk.new (w.alloc (.cells #[.slice A l.length c] 22)) 3 #[.int .i64 f]).alloc (.cells #[.int .i64 t] 3))
  have q2 := (Blk.new ((w.alloc (.cells #[.slice A l.length c] 22)).alloc (.cells #[.int .i64 f] 3)) 3 #[.int .i64 t])
  have z3 : (((w.alloc (.cells #[.slice A l.length c] 22)).alloc (.cells #[.int .i64 f] 3)).alloc (.cells #[.int .i64 t] 3)).heap.size = w.heap.size + 3 := by simp
  rw [show (w.alloc (.cells #[.slice A l.length c] 22)).heap.size = w.heap.size + 1 by simp] at q1
  rw [show ((w.alloc (.cells #[.slice A l.length c] 22)).alloc (.cells #[.int .i64 f] 3)).heap.size = w.heap.size + 1 + 1 by simp] at q2
  have hrow := h.below (b3.mono hB)
  by_cases hw : withinB l f t = true
  · have HR : Hid (sliceOf l f t = (pack (cut (bytesOf l) f t), 0)) := if_pos hw
    obtain ⟨hg, h0, h1, h2, h3, hs⟩ := within_of hw
    have Q := Lib.hid (And.intro b3 (And.intro q0 (And.intro q1 (And.intro q2 (And.intro z3 hrow)))))
    clear b3 q0 q1 q2 z3 hrow
    go_enter Tryd.func78, Tryd.ntmps78
    go_wp2_with (go_at_call 87; refine (runWithin_any A c B l f t HF.out hlen _ (by rw [Q.out.2.2.2.2.1]; omega) Q.out.2.2.2.2.2).mono ?_; rintro e w1 ⟨rfl, hb1⟩; rw [hw])
    have z1 : w.heap.size + 3 ≤ w1.heap.size := by have := hb1.size; rw [Q.out.2.2.2.2.1] at this; exact this
    have p0 := Q.out.2.1.below hb1 (by rw [Q.out.2.2.2.2.1]; omega)
    have p1 := Q.out.2.2.1.below hb1 (by rw [Q.out.2.2.2.2.1]; omega)
    have p2 := Q.out.2.2.2.1.below hb1 (by rw [Q.out.2.2.2.2.1]; omega)
    have prow := Q.out.2.2.2.2.2.below (hb1.mono (by rw [Q.out.2.2.2.2.1]; omega))
    have pb := Q.out.1.trans (hb1.mono (by rw [Q.out.2.2.2.2.1]; omega))
    clear Q hb1
    refine (runMerged_any 88 ent_slice _ (cut (bytesOf l) f t) w1 fun w2 hG hb2 => ?_).mono ?_
    · exact sliceEach_any w1.heap.size w.heap.size (w.heap.size + 1) (w.heap.size + 1 + 1) A c B l f t HF.out hlen hg h0 h1 (by omega) w2 hG (by omega) (prow.below (hb2.mono (by omega))) (p0.below hb2 (by omega)) (p1.below hb2 (by omega)) (p2.below hb2 (by omega))
    · rintro e w2 ⟨A2, c2, rfl, hown2, hb2⟩
      go_wp2
      go_ret2
      rw [HR.out]
      exact ⟨A2, c2, rfl, own_base hown2 (by omega), pb.trans (hb2.mono (by omega))⟩
  · have HR : Hid (sliceOf l f t = ([], 2)) := if_neg hw
    have hw' : withinB l f t = false := by simpa using hw
    have Q := Lib.hid (And.intro b3 (And.intro q0 (And.intro q1 (And.intro q2 (And.intro z3 hrow)))))
    clear b3 q0 q1 q2 z3 hrow
    go_enter Tryd.func78, Tryd.ntmps78
    go_wp2_with (go_at_call 87; refine (runWithin_any A c B l f t HF.out hlen _ (by rw [Q.out.2.2.2.2.1]; omega) Q.out.2.2.2.2.2).mono ?_; rintro e w1 ⟨rfl, hb1⟩; rw [hw'])
    go_ret2
    rw [HR.out]
    exact gives_nil (Q.out.1.trans (hb1.mono (by rw [Q.out.2.2.2.2.1]; omega)))
end Go.Proofs.YtgmeamefbfgbgaaDoor

/-
  The landed Normal: layer 3.
-/
namespace Go.Proofs.YtgmeamefbfgbgaaDoor
set_option maxRecDepth 100000
open Go.RowKit

set_option maxRecDepth 100000 in
theorem ent_normal (args : Array Value) (w : World) : Sem.run Tryd.prog (callFunc 85 args) w = .ok (.enter 85 args) w := by rfl

set_option maxHeartbeats 1000000 in
theorem normalEach_any (g gl : Nat) (A : Option Addr) (c B : Nat) (l : List RunP) (hf : Fits l) (hlen : l.length ≤ maxLen) (hs : sumN l ≤ 4096) (hn : ∀ r ∈ l, 0 ≤ r.2)
    (w : World) (hI : Gath w (g + 1) g []) (hB : B ≤ g) (h : Row w B A (flatR l)) (bl : Blk w gl 22 #[.slice A l.length c]) :
    Calls Tryd.prog 85 #[.func (.func 97) #[] #[.pointer (some ⟨g, 0, none⟩)], .pointer (some ⟨gl, 0, none⟩)] w fun e w' =>
      e = .returned (.tuple #[]) ∧ Gath w' (g + 1) g (bytesOf l) ∧ Below g w w' := by
  unfold maxLen at hlen
  have HF := Lib.hid hf
  have HN := Lib.hid hn
  clear hf hn
  have kl := bl.cell 0
  simp at kl
  go_enter Tryd.func85, Tryd.ntmps85
  go_wp2
  go_loopw [7] (fun i wr => ∃ k : Nat, k ≤ l.length ∧ i = .int .i64 k ∧ Gath wr (g + 1) g (bytesOf (l.take k)) ∧ Below g w wr) (fun i _ => l.length - (intOf i).toNat)
  case atStart => exact ⟨0, Nat.zero_le _, rfl, hI, Below.refl _ _⟩
  case round =>
    clear hI
    obtain ⟨k, hk, rfl, hI, hb⟩ := hrel
    have z : g + 1 ≤ wr.heap.size := hI.2.1
    by_cases hlt : k < l.length
    · obtain ⟨ad, rfl, hbl, c0, c1⟩ := run_cells (h.below (hb.mono hB)) hlt
      have hfk := HF.out l[k] (List.getElem_mem hlt)
      have hnk := HN.out l[k] (List.getElem_mem hlt)
      have HS := Lib.hid (bytesOf_succ l k hlt)
      have hle := sumN_take_le l (k + 1)
      have hs1 := sumN_succ l k hlt
      have hlb : (bytesOf (l.take k)).length ≤ 4096 := by rw [bytesOf_len]; have := sumN_take_le l k; omega
      generalize l[k] = r at *
      obtain ⟨x, n⟩ := r
      dsimp only at *
      have hx := hfk.1
      have hn2 : n ≤ 4096 := by omega
      clear hs1
      have HI := hI.alloc (.cells #[.int .u64 (x : Nat), .int .i64 n] 51)
      go_wp2_with (go_at_call 97; refine (runAdd_any (g + 1) g _ x n hx (by omega) (by omega) _ HI).mono ?_; rintro e w2 ⟨rfl, hI2, hb2⟩)
      go_roundw
      case rel => exact ⟨k + 1, by omega, by go_num, by rw [HS.out]; exact hI2, (hb.alloc (by omega) _).trans hb2.1⟩
      case measure => simp [intOf]; omega
    · obtain rfl : k = l.length := by omega
      rw [List.take_length] at hI
      go_wp2
      go_end0
      exact ⟨rfl, hI, hb⟩

set_option maxHeartbeats 1000000 in
theorem runNormal_any (A : Option Addr) (c B : Nat) (l : List RunP) (hf : Fits l) (hlen : l.length ≤ maxLen) (w : World) (hB : B ≤ w.heap.size) (h : Row w B A (flatR l)) :
    Calls Tryd.prog 63 #[.slice A l.length c] w (Gives w (normalOf l)) := by
  have hlen0 := hlen
  unfold maxLen at hlen
  have HF := Lib.hid hf
  clear hf
  have HX : Hid (∀ k, k < l.length → (h : k < l.length) → l[k].2 < 0 → normalOf l = ([], 2)) := fun k _ h hn => by
    unfold normalOf; rw [if_pos ⟨_, List.getElem_mem h, hn⟩]
  have b1 : Below w.heap.size w (w.alloc (.cells #[.slice A l.length c] 22)) := (Below.refl _ w).alloc (Nat.le_refl _) _
  have q0 := Blk.new w 22 #[.slice A l.length c]
  have z1 : (w.alloc (.cells #[.slice A l.length c] 22)).heap.size = w.heap.size + 1 := by simp
  have hrow := h.below (b1.mono hB)
  have Q := Lib.hid (And.intro b1 (And.intro q0 (And.intro z1 hrow)))
  clear b1 q0 z1 hrow
  go_enter Tryd.func63, Tryd.ntmps63
  go_wp2
  go_loopw [8] (fun i wr => ∃ k : Nat, k ≤ l.length ∧ i = .int .i64 k ∧ Hid (∀ j, (hj : j < l.length) → j < k → 0 ≤ l[j].2) ∧ Below (w.heap.size + 1) (w.alloc (.cells #[.slice A l.length c] 22)) wr) (fun i _ => l.length - (intOf i).toNat)
  case atStart => exact ⟨0, Nat.zero_le _, rfl, fun j _ hj => absurd hj (by omega), Below.refl _ _⟩
  case round =>
    obtain ⟨k, hk, rfl, HA, hb⟩ := hrel
    have z : w.heap.size + 1 ≤ wr.heap.size := by have := hb.size; rw [Q.out.2.2.1] at this; exact this
    have hr := Q.out.2.2.2.below (hb.mono (by omega))
    have p0 := Q.out.2.1.below hb (by omega)
    have kl := p0.cell 0
    simp at kl
    by_cases hlt : k < l.length
    · obtain ⟨ad, rfl, hbl, c0, c1⟩ := run_cells hr hlt
      have hfk := HF.out l[k] (List.getElem_mem hlt)
      have HN : Hid (l[k].2 < 0 → normalOf l = ([], 2)) := fun hn => HX.out k hlt hlt hn
      have HA2 : Hid (0 ≤ l[k].2 → ∀ j, (hj : j < l.length) → j < k + 1 → 0 ≤ l[j].2) := fun h0 j hj hj1 => by
        rcases Nat.lt_or_ge j k with h1 | h1
        · exact HA.out j hj h1
        · obtain rfl : j = k := by omega
          exact h0
      generalize l[k] = r at *
      obtain ⟨x, n⟩ := r
      dsimp only at *
      by_cases hn : n < 0
      · go_wp2
        go_ret2
        rw [HN.out hn]
        exact gives_nil (Q.out.1.trans ((hb.alloc z _).mono (by omega)))
      · go_wp2
        go_roundw
        case rel => exact ⟨k + 1, by omega, by go_num, HA2.out (by omega), hb.alloc z _⟩
        case measure => simp [intOf]; omega
    · obtain rfl : k = l.length := by omega
      have HNE : Hid (∀ r ∈ l, 0 ≤ r.2) := fun r hr => by
        obtain ⟨j, hj, rfl⟩ := List.getElem_of_mem hr
        exact HA.out j hj hj
      have HNO : Hid (¬ ∃ r ∈ l, r.2 < 0) := fun ⟨r, hr, hn⟩ => by have := HNE.out r hr; omega
      by_cases hs : sumN l ≤ 4096
      · have HT : Hid (totalOf l = sumN l) := by show _ = _; unfold totalOf; rw [if_pos hs]
        have HR : Hid (normalOf l = (pack (bytesOf l), 0)) := by show _ = _; unfold normalOf; rw [if_neg HNO.out, if_pos hs]
        go_wp2_with (go_at_call 74; refine (runTotal_any A c B l HF.out hlen0 wr (by omega) hr).mono ?_; rintro e w1 ⟨rfl, hb1⟩; rw [HT.out]; have z1 := hb1.size)
        have r1 := hr.below (hb1.mono (by omega))
        have p1 := p0.below hb1 (by omega)
        have hbb := Q.out.1.trans ((hb.mono (by omega)).trans (hb1.mono (by omega)))
        refine (runMerged_any 85 ent_normal _ (bytesOf l) w1 fun w2 hG hb2 => ?_).mono ?_
        · exact normalEach_any w1.heap.size w.heap.size A c B l HF.out hlen0 hs HNE.out w2 hG (by omega) (r1.below (hb2.mono (by omega))) (p1.below hb2 (by omega))
        · rintro e w2 ⟨A2, c2, rfl, hown2, hb2⟩
          go_wp2
          go_ret2
          rw [HR.out]
          exact ⟨A2, c2, rfl, own_base hown2 (by omega), hbb.trans (hb2.mono (by omega))⟩
      · have HT : Hid (totalOf l = 4097) := by show _ = _; unfold totalOf; rw [if_neg hs]
        have HR : Hid (normalOf l = ([], 3)) := by show _ = _; unfold normalOf; rw [if_neg HNO.out, if_neg hs]
        go_wp2_with (go_at_call 74; refine (runTotal_any A c B l HF.out hlen0 wr (by omega) hr).mono ?_; rintro e w1 ⟨rfl, hb1⟩; rw [HT.out])
        go_ret2
        rw [HR.out]
        exact gives_nil (Q.out.1.trans ((hb.mono (by omega)).trans (hb1.mono (by omega))))
end Go.Proofs.YtgmeamefbfgbgaaDoor

/-
  The landed Splice: layer 3.
-/
namespace Go.Proofs.YtgmeamefbfgbgaaDoor
set_option maxRecDepth 100000
open Go.RowKit

set_option maxRecDepth 100000 in
theorem ent_splice (args : Array Value) (w : World) : Sem.run Tryd.prog (callFunc 90 args) w = .ok (.enter 90 args) w := by rfl

set_option maxHeartbeats 1000000 in
theorem spliceEach_any (g gl gf gm gs gt go : Nat) (A A2 : Option Addr) (c d B B2 : Nat) (l m : List RunP) (f t : Int) (hf : Fits l) (hf2 : Fits m) (hlen : l.length ≤ maxLen) (hlen2 : m.length ≤ maxLen) (hg : goodB l = true) (hg2 : goodB m = true)
    (h0 : 0 ≤ f) (h1 : f ≤ t) (h2 : t ≤ ((bytesOf l).length : Int)) (hl : (bytesOf l).length ≤ 4096) (hm : (bytesOf m).length ≤ 4096)
    (w : World) (hI : Gath w (g + 1) g []) (hB : B ≤ g) (hB2 : B2 ≤ g) (h : Row w B A (flatR l)) (hh : Row w B2 A2 (flatR m)) (bl : Blk w gl 22 #[.slice A l.length c]) (bf : Blk w gf 3 #[.int .i64 f]) (bm : Blk w gm 22 #[.slice A2 m.length d])
    (bs : Blk w gs 3 #[.int .i64 ((bytesOf m).length : Nat)]) (bt : Blk w gt 3 #[.int .i64 t]) (bo : Blk w go 3 #[.int .i64 ((bytesOf l).length : Nat)]) (kl : gl < g) (_kf : gf < g) (km : gm < g) (ks : gs < g) (kt : gt < g) (ko : go < g) :
    Calls Tryd.prog 90 #[.func (.func 97) #[] #[.pointer (some ⟨g, 0, none⟩)], .pointer (some ⟨gl, 0, none⟩), .pointer (some ⟨gf, 0, none⟩), .pointer (some ⟨gm, 0, none⟩), .pointer (some ⟨gs, 0, none⟩), .pointer (some ⟨gt, 0, none⟩), .pointer (some ⟨go, 0, none⟩)] w fun e w' =>
      e = .returned (.tuple #[]) ∧ Gath w' (g + 1) g ((bytesOf l).take f.toNat ++ bytesOf m ++ (bytesOf l).drop t.toNat) ∧ Below g w w' := by
  have HF := Lib.hid hf
  have HF2 := Lib.hid hf2
  clear hf hf2
  have e1 : cut (bytesOf l) 0 f = (bytesOf l).take f.toNat := cut_front
  have e2 : cut (bytesOf m) 0 ((bytesOf m).length : Nat) = bytesOf m := by rw [cut_front]; exact List.take_of_length_le (by simp)
  have e3 : cut (bytesOf l) t ((bytesOf l).length : Nat) = (bytesOf l).drop t.toNat := cut_back (by omega)
  have HE := Lib.hid (And.intro e1 (And.intro e2 e3))
  clear e1 e2 e3
  have HL1 : Hid (([] ++ cut (bytesOf l) 0 f).length ≤ 90000) := by show _ ≤ _; rw [HE.out.1, List.nil_append, List.length_take]; omega
  have HL2 : Hid ((([] ++ cut (bytesOf l) 0 f) ++ cut (bytesOf m) 0 ((bytesOf m).length : Nat)).length ≤ 90000) := by show _ ≤ _; rw [HE.out.1, HE.out.2.1, List.nil_append, List.length_append, List.length_take]; omega
  have c1 := bl.cell 0
  have c2 := bf.cell 0
  simp at c1 c2
  go_enter Tryd.func90, Tryd.ntmps90
  go_wp2_with fail
  refine (runPartAdd_any (g + 1) g A c B l 0 f HF.out hlen hg (by omega) h0 (by omega) [] (by simp) w hI hB h).mono ?_
  rintro e w1 ⟨rfl, hI1, hb1⟩
  clear c1 c2
  have c3 := (bm.below hb1.1 km).cell 0
  have c4 := (bs.below hb1.1 ks).cell 0
  simp at c3 c4
  go_wp2_with fail
  refine (runPartAdd_any (g + 1) g A2 d B2 m 0 ((bytesOf m).length : Nat) HF2.out hlen2 hg2 (by omega) (by omega) (by omega) _ HL1.out w1 hI1 hB2 (hh.below (hb1.1.mono hB2))).mono ?_
  rintro e w2 ⟨rfl, hI2, hb2⟩
  have hb12 := hb1.1.trans hb2.1
  clear c3 c4 hb1 hb2
  have c5 := (bl.below hb12 kl).cell 0
  have c6 := (bt.below hb12 kt).cell 0
  have c7 := (bo.below hb12 ko).cell 0
  simp at c5 c6 c7
  go_wp2_with fail
  refine (runPartAdd_any (g + 1) g A c B l t ((bytesOf l).length : Nat) HF.out hlen hg (by omega) h2 (by omega) _ HL2.out w2 hI2 hB (h.below (hb12.mono hB))).mono ?_
  rintro e w3 ⟨rfl, hI3, hb3⟩
  rw [HE.out.1, HE.out.2.1, HE.out.2.2, List.nil_append] at hI3
  go_wp2
  go_end0
  exact ⟨rfl, hI3, hb12.trans hb3.1⟩
end Go.Proofs.YtgmeamefbfgbgaaDoor

/-
  The landed Splice, Cat: layer 3.
-/
namespace Go.Proofs.YtgmeamefbfgbgaaDoor
set_option maxRecDepth 100000
open Go.RowKit

theorem box_facts (w : World) (T0 T1 T2 T3 : TypeId) (v0 v1 v2 v3 : Value) :
    Below w.heap.size w ((((w.alloc (.cells #[v0] T0)).alloc (.cells #[v1] T1)).alloc (.cells #[v2] T2)).alloc (.cells #[v3] T3)) ∧
    ((((w.alloc (.cells #[v0] T0)).alloc (.cells #[v1] T1)).alloc (.cells #[v2] T2)).alloc (.cells #[v3] T3)).heap.size = w.heap.size + 4 ∧
    Blk ((((w.alloc (.cells #[v0] T0)).alloc (.cells #[v1] T1)).alloc (.cells #[v2] T2)).alloc (.cells #[v3] T3)) w.heap.size T0 #[v0] ∧
    Blk ((((w.alloc (.cells #[v0] T0)).alloc (.cells #[v1] T1)).alloc (.cells #[v2] T2)).alloc (.cells #[v3] T3)) (w.heap.size + 1) T1 #[v1] ∧
    Blk ((((w.alloc (.cells #[v0] T0)).alloc (.cells #[v1] T1)).alloc (.cells #[v2] T2)).alloc (.cells #[v3] T3)) (w.heap.size + 1 + 1) T2 #[v2] ∧
    Blk ((((w.alloc (.cells #[v0] T0)).alloc (.cells #[v1] T1)).alloc (.cells #[v2] T2)).alloc (.cells #[v3] T3)) (w.heap.size + 1 + 1 + 1) T3 #[v3] := by
  have e1 : (w.alloc (.cells #[v0] T0)).heap.size = w.heap.size + 1 := by simp
  have e2 : ((w.alloc (.cells #[v0] T0)).alloc (.cells #[v1] T1)).heap.size = w.heap.size + 1 + 1 := by simp
  have e3 : (((w.alloc (.cells #[v0] T0)).alloc (.cells #[v1] T1)).alloc (.cells #[v2] T2)).heap.size = w.heap.size + 1 + 1 + 1 := by simp
  refine ⟨((((Below.refl _ w).alloc (Nat.le_refl _) _).alloc (by omega) _).alloc (by omega) _).alloc (by omega) _, by simp, (((Blk.new w T0 #[v0]).alloc _).alloc _).alloc _, ?_, ?_, ?_⟩
  · rw [← e1]; exact ((Blk.new _ T1 #[v1]).alloc _).alloc _
  · rw [← e2]; exact (Blk.new _ T2 #[v2]).alloc _
  · rw [← e3]; exact Blk.new _ T3 #[v3]

theorem below_al {B : Nat} {a b : World} {o : Obj} (h : Below B a b) (hB : B ≤ a.heap.size) : Below B a (b.alloc o) := h.alloc (Nat.le_trans hB h.size) o
theorem below_dr {B : Nat} {a b : World} (h : Below B a b) : Below B a b.drew := h.drew
/-- a variable of the call's own, known and free -/
def Kn (w : World) (k : Nat) : Prop := w.cell? ⟨k, 0, none⟩ = some (.int .i64 0) ∧ w.frozen? ⟨k, 0, none⟩ = false ∧ k < w.heap.size ∧ k ≠ w.heap.size ∧ w.heap.size ≠ k
theorem kn_of {w : World} {k : Nat} (h : Blk w k 3 #[.int .i64 0]) : Kn w k := by
  have := h.lt
  exact ⟨by have := h.cell 0; simpa using this, h.frozen 0, this, by omega, by omega⟩
theorem kn_one {X w' : World} (hb : Below (X.alloc (.cells #[.int .i64 0] 3)).heap.size (X.alloc (.cells #[.int .i64 0] 3)) w') : Blk w' X.heap.size 3 #[.int .i64 0] :=
  (Blk.new X _ _).below hb (by simp)
theorem kn_one_drew {X w' : World} (hb : Below (X.alloc (.cells #[.int .i64 0] 3)).drew.heap.size (X.alloc (.cells #[.int .i64 0] 3)).drew w') : Blk w' X.heap.size 3 #[.int .i64 0] :=
  (Blk.new X _ _).drew.below hb (by show _ < (X.alloc _).heap.size; simp)
theorem kn_two {X w' : World} (hb : Below ((X.alloc (.cells #[.int .i64 0] 3)).alloc (.cells #[.int .i64 0] 3)).heap.size ((X.alloc (.cells #[.int .i64 0] 3)).alloc (.cells #[.int .i64 0] 3)) w') : Blk w' X.heap.size 3 #[.int .i64 0] ∧ Blk w' (X.heap.size + 1) 3 #[.int .i64 0] :=
  ⟨((Blk.new X _ _).alloc _).below hb (by simp; omega), by have := (Blk.new (X.alloc (.cells #[.int .i64 0] 3)) 3 #[.int .i64 0]).below hb (by simp); simpa using this⟩
theorem kn_two_drew {X w' : World} (hb : Below ((X.alloc (.cells #[.int .i64 0] 3)).alloc (.cells #[.int .i64 0] 3)).drew.heap.size ((X.alloc (.cells #[.int .i64 0] 3)).alloc (.cells #[.int .i64 0] 3)).drew w') : Blk w' X.heap.size 3 #[.int .i64 0] ∧ Blk w' (X.heap.size + 1) 3 #[.int .i64 0] :=
  kn_two ⟨hb.os, hb.tape, hb.output, hb.size, hb.block⟩
theorem blk_step {W w' : World} {k T : Nat} {cs : Array Value} (h : Blk W k T cs) (hb : Below W.heap.size W w') : Blk w' k T cs := h.below hb h.lt
theorem blk_new1 (X : World) (a : Obj) (T : TypeId) (cs : Array Value) : Blk ((X.alloc a).alloc (.cells cs T)) (X.heap.size + 1) T cs := by
  have := Blk.new (X.alloc a) T cs
  simpa using this
theorem blk_newS (X : World) (p : Addr) (u : Value) (T : TypeId) (cs : Array Value) : Blk ((X.setCell p u).alloc (.cells cs T)) X.heap.size T cs := by
  have := Blk.new (X.setCell p u) T cs
  simpa using this
theorem blk_set0 {X : World} {k T : Nat} {v : Value} (h : Blk X k T #[v]) (u : Value) : Blk (X.setCell ⟨k, 0, none⟩ u) k T #[u] := by
  have := h.set_ 0 u
  simpa using this
theorem use_fact {p G : Prop} (h : p) (k : p → G) : G := k h
theorem keep_S {P : World → Prop} {w2 : World} (h : ∀ w', Below w2.heap.size w2 w' → P w') : ∀ w', Below w2.heap.size w2 w' → P w' := h

set_option maxHeartbeats 1000000 in
theorem runSplice_any (A A2 : Option Addr) (c d B B2 : Nat) (l m : List RunP) (f t : Int) (hf : Fits l) (hf2 : Fits m) (hlen : l.length ≤ maxLen) (hlen2 : m.length ≤ maxLen) (w : World) (hB : B ≤ w.heap.size) (hB2 : B2 ≤ w.heap.size) (h : Row w B A (flatR l)) (hh : Row w B2 A2 (flatR m)) :
    Calls Tryd.prog 80 #[.slice A l.length c, .int .i64 f, .int .i64 t, .slice A2 m.length d] w (Gives w (spliceOf l f t m)) := by
  have HF := Lib.hid hf
  have HF2 := Lib.hid hf2
  clear hf hf2
  have Q := Lib.hid (box_facts w 22 3 3 22 (.slice A l.length c) (.int .i64 f) (.int .i64 t) (.slice A2 m.length d))
  have HRW := Lib.hid (h.below (Q.out.1.mono hB))
  have HRW2 := Lib.hid (hh.below (Q.out.1.mono hB2))
  by_cases hw : withinB l f t = true
  · obtain ⟨hg, h0, h1, h2, h3, hs⟩ := within_of hw
    by_cases hg2 : goodB m = true
    · have hs2 := ((goodB_iff m).1 hg2).1
      have hl2 : (bytesOf m).length ≤ 4096 := by rw [bytesOf_len]; exact hs2
      have HT := Lib.hid (totalOf_good hg)
      have HT2 := Lib.hid (totalOf_good hg2)
      go_enter Tryd.func80, Tryd.ntmps80
      go_upto_region 3 with (first
        | (go_at_call 87; refine (runWithin_any A c B l f t HF.out hlen _ (by rw [Q.out.2.1]; omega) HRW.out).mono ?_; rintro e w1 ⟨rfl, hb1⟩; rw [hw]; have z1 : w.heap.size + 4 ≤ w1.heap.size := by {have := hb1.size; rw [Q.out.2.1] at this; exact this}; have c3 := (Q.out.2.2.2.2.2.below hb1 (by rw [Q.out.2.1]; omega)).cell 0; simp at c3)
        | (go_at_call 73; refine (runGood_any A2 d B2 m HF2.out hlen2 w1 (by omega) (HRW2.out.below (hb1.mono (by rw [Q.out.2.1]; omega)))).mono ?_; rintro e w2 ⟨rfl, hb2⟩; rw [hg2]; have z2 := hb2.size; clear c3))
      have W2 := Lib.hid (And.intro (Q.out.1.trans ((hb1.mono (by rw [Q.out.2.1]; omega)).trans (hb2.mono (by omega)))) (And.intro ((Q.out.2.2.1.below hb1 (by rw [Q.out.2.1]; omega)).below hb2 (by omega)) (And.intro ((Q.out.2.2.2.1.below hb1 (by rw [Q.out.2.1]; omega)).below hb2 (by omega)) (And.intro ((Q.out.2.2.2.2.1.below hb1 (by rw [Q.out.2.1]; omega)).below hb2 (by omega)) ((Q.out.2.2.2.2.2.below hb1 (by rw [Q.out.2.1]; omega)).below hb2 (by omega))))))
      have Z2 : w.heap.size + 4 ≤ w2.heap.size := by omega
      have KS := Lib.hid (keep_S (P := fun w' => w'.cell? ⟨w.heap.size, 0, none⟩ = some (.slice A l.length c) ∧ w'.cell? ⟨w.heap.size + 1 + 1 + 1, 0, none⟩ = some (.slice A2 m.length d) ∧ Below w2.heap.size w2 w') (fun w' hb => ⟨by have := (W2.out.2.1.below hb (by omega)).cell 0; simpa using this, by have := (W2.out.2.2.2.2.below hb (by omega)).cell 0; simpa using this, hb⟩))
      clear hb1 hb2 z1 z2 Q HRW HRW2
      go_cut [10, 11] (fun s10 s11 wx => ∃ g1 g2 : Nat, s10 = .pointer (some ⟨g1, 0, none⟩) ∧ s11 = .pointer (some ⟨g2, 0, none⟩) ∧ Below w2.heap.size w2 wx ∧ Blk wx g1 3 #[.int .i64 ((bytesOf l).length : Nat)] ∧ Blk wx g2 3 #[.int .i64 ((bytesOf m).length : Nat)])
      case first =>
        have hb0 : Below w2.heap.size w2 w2 := Below.refl _ _
        have TL : Hid (∀ w', Below w2.heap.size w2 w' → Calls Tryd.prog 74 #[.slice A l.length c] w' fun e w'' => e = .returned (.int .i64 ((bytesOf l).length : Nat)) ∧ Below w2.heap.size w2 w'' ∧ Below w'.heap.size w' w'') := fun w' hb => by
          have hz := hb.size
          refine (runTotal_any A c B l HF.out hlen w' (by omega) (h.below ((W2.out.1.trans (hb.mono (by omega))).mono hB))).mono ?_
          rintro e w3 ⟨rfl, hb3⟩
          exact ⟨by rw [HT.out], hb.trans (hb3.mono hz), hb3⟩
        have TM : Hid (∀ w', Below w2.heap.size w2 w' → Calls Tryd.prog 74 #[.slice A2 m.length d] w' fun e w'' => e = .returned (.int .i64 ((bytesOf m).length : Nat)) ∧ Below w2.heap.size w2 w'' ∧ Below w'.heap.size w' w'') := fun w' hb => by
          have hz := hb.size
          refine (runTotal_any A2 d B2 m HF2.out hlen2 w' (by omega) (hh.below ((W2.out.1.trans (hb.mono (by omega))).mono hB2))).mono ?_
          rintro e w3 ⟨rfl, hb3⟩
          exact ⟨by rw [HT2.out], hb.trans (hb3.mono hz), hb3⟩
        go_region_held3 (fun w' => w'.cell? ⟨w.heap.size, 0, none⟩ = some (.slice A l.length c) ∧ w'.cell? ⟨w.heap.size + 1 + 1 + 1, 0, none⟩ = some (.slice A2 m.length d) ∧ Below w2.heap.size w2 w')
          ((refine KS.out _ ?_; (repeat (first | assumption | refine below_dr ?_ | refine below_al ?_ (Nat.le_refl _) | (refine Below.setCell ?_ ?_ _; rotate_left; (first | focus (simp; done) | focus (simp; omega))))); done))
          (first
            | (go_at_call_of 74 l; refine (TL.out _ ?_).mono ?_; (repeat (first | assumption | refine below_dr ?_ | refine below_al ?_ (Nat.le_refl _))); rintro e w3 ⟨rfl, hbx, hby⟩; have hzy := hbx.size; first | ((refine use_fact (kn_two_drew hby) ?_; intro a2; obtain ⟨b1, b2, b3, b4, b5⟩ := kn_of a2.1; obtain ⟨b6, b7, b8, b9, b10⟩ := kn_of a2.2; have A22 := Lib.hid a2; clear a2)) | ((refine use_fact (kn_one_drew hby) ?_; intro a1; obtain ⟨b1, b2, b3, b4, b5⟩ := kn_of a1; have A1 := Lib.hid a1; clear a1)) | skip)
            | (go_at_call_of 74 m; refine (TM.out _ ?_).mono ?_; (repeat (first | assumption | refine below_dr ?_ | refine below_al ?_ (Nat.le_refl _))); rintro e w4 ⟨rfl, hbx, hby⟩; have hzy := hbx.size; (first | ((refine use_fact (kn_two hby) ?_; intro a2; obtain ⟨b1, b2, b3, b4, b5⟩ := kn_of a2.1; obtain ⟨b6, b7, b8, b9, b10⟩ := kn_of a2.2; have A3 := Lib.hid a2; clear a2)) | ((refine use_fact (kn_one hby) ?_; intro a1; obtain ⟨b1, b2, b3, b4, b5⟩ := kn_of a1; have A4 := Lib.hid a1; clear a1)) | skip); (try (refine use_fact (blk_step A1.out hby) ?_; intro a1; obtain ⟨b1, b2, b3, b4, b5⟩ := kn_of a1; have A5 := Lib.hid a1; clear a1)); (try (refine use_fact (blk_step (Blk.alloc A1.out _) hby) ?_; intro a1; obtain ⟨b1, b2, b3, b4, b5⟩ := kn_of a1; have A5 := Lib.hid a1; clear a1)); (try (refine use_fact (blk_step A22.out.1 hby) ?_; intro a1; obtain ⟨b1, b2, b3, b4, b5⟩ := kn_of a1; have A6 := Lib.hid a1; clear a1)); (try (refine use_fact (blk_step A22.out.2 hby) ?_; intro a1; obtain ⟨b1, b2, b3, b4, b5⟩ := kn_of a1; have A7 := Lib.hid a1; clear a1))))
        all_goals go_wp2_with fail
        all_goals go_meet
        all_goals
          refine ⟨_, _, rfl, rfl, ?_, ?_, ?_⟩
          · repeat (first | assumption | refine below_dr ?_ | refine below_al ?_ (Nat.le_refl _) | (refine Below.setCell ?_ ?_ _; rotate_left; (first | focus (simp; done) | focus (simp; omega))))
          · repeat (first
              | with_reducible exact Blk.new _ _ _
              | with_reducible exact blk_new1 _ _ _ _
              | with_reducible exact blk_newS _ _ _ _ _
              | with_reducible exact A3.out.1
              | with_reducible exact A3.out.2
              | with_reducible exact A4.out
              | with_reducible exact A5.out
              | with_reducible exact A6.out
              | with_reducible exact A7.out
              | with_reducible refine blk_set0 (v := .int .i64 0) ?_ _
              | with_reducible refine Blk.alloc ?_ _
              | (with_reducible refine Blk.far ?_ ?_ _; rotate_left; (first | focus (simp; done) | focus (simp; omega) | focus (show _ ≠ _; omega))))
          · repeat (first
              | with_reducible exact Blk.new _ _ _
              | with_reducible exact blk_new1 _ _ _ _
              | with_reducible exact blk_newS _ _ _ _ _
              | with_reducible exact A3.out.1
              | with_reducible exact A3.out.2
              | with_reducible exact A4.out
              | with_reducible exact A5.out
              | with_reducible exact A6.out
              | with_reducible exact A7.out
              | with_reducible refine blk_set0 (v := .int .i64 0) ?_ _
              | with_reducible refine Blk.alloc ?_ _
              | (with_reducible refine Blk.far ?_ ?_ _; rotate_left; (first | focus (simp; done) | focus (simp; omega) | focus (show _ ≠ _; omega))))
      case rest =>
        obtain ⟨g1, g2, rfl, rfl, hb3, n1, n2⟩ := hcut
        have z3 := hb3.size
        have W3 := Lib.hid (And.intro (W2.out.1.trans (hb3.mono (by omega))) (And.intro (W2.out.2.1.below hb3 (by omega)) (And.intro (W2.out.2.2.1.below hb3 (by omega)) (And.intro (W2.out.2.2.2.1.below hb3 (by omega)) (W2.out.2.2.2.2.below hb3 (by omega))))))
        have x1 := n1.cell 0
        have x2 := n2.cell 0
        have x3 := W3.out.2.2.1.cell 0
        have x4 := W3.out.2.2.2.1.cell 0
        simp at x1 x2 x3 x4
        have l1 := n1.lt
        have l2 := n2.lt
        by_cases hbig : ((bytesOf l).length : Int) - (t - f) + ((bytesOf m).length : Int) ≤ 4096
        · have HR := Lib.hid (spliceOf_ok hw hg2 hbig)
          go_wp2_with fail
          refine (runMerged_any 90 ent_splice _ ((bytesOf l).take f.toNat ++ bytesOf m ++ (bytesOf l).drop t.toNat) wc fun w2' hG hb2' => ?_).mono ?_
          · exact spliceEach_any wc.heap.size w.heap.size (w.heap.size + 1) (w.heap.size + 1 + 1 + 1) g2 (w.heap.size + 1 + 1) g1 A A2 c d B B2 l m f t HF.out HF2.out hlen hlen2 hg hg2 h0 h1 h2 h3 hl2 w2' hG (by omega) (by omega)
              (h.below ((W3.out.1.trans (hb2'.mono (by omega))).mono hB)) (hh.below ((W3.out.1.trans (hb2'.mono (by omega))).mono hB2))
              (W3.out.2.1.below hb2' (by omega)) (W3.out.2.2.1.below hb2' (by omega)) (W3.out.2.2.2.2.below hb2' (by omega)) (n2.below hb2' l2) (W3.out.2.2.2.1.below hb2' (by omega)) (n1.below hb2' l1) (by omega) (by omega) (by omega) (by omega) (by omega) (by omega)
          · rintro e w5 ⟨A5, c5, rfl, hown5, hb5⟩
            generalize (bytesOf l).take f.toNat ++ bytesOf m ++ (bytesOf l).drop t.toNat = X at *
            go_wp2
            go_ret2
            rw [HR.out]
            exact ⟨A5, c5, rfl, own_base hown5 (by omega), W3.out.1.trans (hb5.mono (by omega))⟩
        · have HR := Lib.hid (spliceOf_big hw hg2 hbig)
          go_wp2
          go_ret2
          rw [HR.out]
          exact gives_nil W3.out.1
    · have HR := Lib.hid (spliceOf_bad (l := l) (f := f) (t := t) (m := m) (fun h => hg2 h.2))
      have hg2' : goodB m = false := by simpa using hg2
      go_enter Tryd.func80, Tryd.ntmps80
      go_wp2_with (first
        | (go_at_call 87; refine (runWithin_any A c B l f t HF.out hlen _ (by rw [Q.out.2.1]; omega) HRW.out).mono ?_; rintro e w1 ⟨rfl, hb1⟩; rw [hw]; have z1 : w.heap.size + 4 ≤ w1.heap.size := by {have := hb1.size; rw [Q.out.2.1] at this; exact this}; have c3 := (Q.out.2.2.2.2.2.below hb1 (by rw [Q.out.2.1]; omega)).cell 0; simp at c3)
        | (go_at_call 73; refine (runGood_any A2 d B2 m HF2.out hlen2 w1 (by omega) (HRW2.out.below (hb1.mono (by rw [Q.out.2.1]; omega)))).mono ?_; rintro e w2 ⟨rfl, hb2⟩; rw [hg2']; have z2 := hb2.size; clear c3))
      go_ret2
      rw [HR.out]
      exact gives_nil (Q.out.1.trans ((hb1.mono (by rw [Q.out.2.1]; omega)).trans (hb2.mono (by omega))))
  · have HR := Lib.hid (spliceOf_bad (l := l) (f := f) (t := t) (m := m) (fun h => hw h.1))
    have hw' : withinB l f t = false := by simpa using hw
    go_enter Tryd.func80, Tryd.ntmps80
    go_wp2_with (go_at_call 87; refine (runWithin_any A c B l f t HF.out hlen _ (by rw [Q.out.2.1]; omega) HRW.out).mono ?_; rintro e w1 ⟨rfl, hb1⟩; rw [hw'])
    go_ret2
    rw [HR.out]
    exact gives_nil (Q.out.1.trans (hb1.mono (by rw [Q.out.2.1]; omega)))
end Go.Proofs.YtgmeamefbfgbgaaDoor

/-
  The landed Cat: layer 3.
-/
namespace Go.Proofs.YtgmeamefbfgbgaaDoor
set_option maxRecDepth 100000
open Go.RowKit

theorem cat_splice (a b : List RunP) : spliceOf a (totalOf a : Nat) (totalOf a : Nat) b = catOf a b := by
  by_cases ha : goodB a = true
  · have hw : withinB a (totalOf a : Nat) (totalOf a : Nat) = true := by unfold withinB; rw [ha]; simp
    have ht := totalOf_good ha
    by_cases hb : goodB b = true
    · by_cases hbig : (bytesOf a).length + (bytesOf b).length ≤ 4096
      · rw [catOf_ok ha hb hbig, spliceOf_ok hw hb (by omega), ht]
        simp
      · rw [catOf_big ha hb hbig, spliceOf_big hw hb (by omega)]
    · rw [catOf_bad (fun h => hb h.2), spliceOf_bad (fun h => hb h.2)]
  · have hw : ¬ withinB a (totalOf a : Nat) (totalOf a : Nat) = true := fun h => ha (within_of h).1
    rw [catOf_bad (fun h => ha h.1), spliceOf_bad (fun h => hw h.1)]

end Go.Proofs.YtgmeamefbfgbgaaDoor

/-
  The landed Raise: layer 3.
-/
namespace Go.Proofs.YtgmeamefbfgbgaaDoor
set_option maxRecDepth 100000
open Go.RowKit

/-- what the raising closure finds -/
def RaiseI (base g ga gb y : Nat) (w : World) (b : List Nat) : Prop := Gath w base g b ∧ Blk w ga 126 #[.func (.func 97) #[] #[.pointer (some ⟨g, 0, none⟩)]] ∧ Blk w gb 26 #[.int .u64 (y : Nat)]

theorem kept_below {base g : Nat} {a b : World} (h : Below a.heap.size a b) (hg : g ≤ a.heap.size) : Kept base g a b := ⟨h.mono hg, fun _ _ _ hb _ _ => hb.below h hb.lt⟩
theorem gath_below {base g : Nat} {a b : World} {l : List Nat} (hG : Gath a base g l) (h : Below a.heap.size a b) : Gath b base g l := by
  obtain ⟨h1, h2, v, h3, h4⟩ := hG
  have := h.size
  exact ⟨h1, by omega, v, h3.below h h3.lt, own_keep h4 h (Nat.le_refl _)⟩
theorem keep_K {P : World → Prop} {base g : Nat} {w2 : World} (h : ∀ w', Kept base g w2 w' → P w') : ∀ w', Kept base g w2 w' → P w' := h

end Go.Proofs.YtgmeamefbfgbgaaDoor

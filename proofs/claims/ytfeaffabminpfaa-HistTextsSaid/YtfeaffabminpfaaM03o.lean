/-
  Merged: RunOwn, RunOwnAsk, RunAdd, RunPart, RunMerged, RunEach, RunEachN, RunEachS, RunOwnSplice, RunOwnCat, RunEachR.
-/
import Derived.Test.YtfeaffabminpfaaM03
import Derived.Deep.RegionHeld3
import Derived.Deep.DeepCutAuto
import Derived.StillTailTactics
/-
  Contracts of the landed package runs: Total, Good, within.
-/
namespace Go.Proofs.Ytfeaffabminpfaa
open Go.RowKit

set_option maxHeartbeats 1000000 in
theorem runTotal_any (A : Option Addr) (c B : Nat) (l : List RunP) (hf : Fits l) (hlen : l.length ≤ maxLen) (w : World) (hB : B ≤ w.heap.size) (h : Row w B A (flatR l)) :
    Calls Try.prog 62 #[.slice A l.length c] w fun e w' => e = .returned (.int .i64 (totalOf l : Nat)) ∧ Below w.heap.size w w' := by
  unfold maxLen at hlen
  have HF := Lib.hid hf
  clear hf
  go_enter Try.func62, Try.ntmps62
  go_wp2
  go_loopw [3, 8] (fun n i wr => ∃ k : Nat, k ≤ l.length ∧ i = .int .i64 k ∧ n = .int .i64 (sumN (l.take k) : Nat) ∧ sumN (l.take k) ≤ 4096 ∧ Below w.heap.size w wr) (fun _ i _ => l.length - (intOf i).toNat)
  case atStart => exact ⟨0, Nat.zero_le _, rfl, rfl, by simp [sumN], Below.refl _ _⟩
  case round =>
    obtain ⟨k, hk, rfl, rfl, hn, hb⟩ := hrel
    have z := hb.size
    by_cases hlt : k < l.length
    · obtain ⟨ad, rfl, hbl, c0, c1⟩ := run_cells (h.below (hb.mono hB)) hlt
      have hfk := HF.out l[k] (List.getElem_mem hlt)
      have hs1 := sumN_succ l k hlt
      have hle := sumN_take_le l (k + 1)
      generalize l[k] = r at *
      obtain ⟨x, n⟩ := r
      dsimp only at *
      have HS := Lib.hid hs1
      clear hs1
      by_cases hbig : n ≥ 4097 - (sumN (l.take k) : Int)
      · have HT : Hid (totalOf l = 4097) := by
          show totalOf l = 4097
          have := HS.out
          unfold totalOf; rw [if_neg (by omega)]
        clear hle
        go_wp2
        go_ret
        exact ⟨by rw [HT.out]; rfl, hb.alloc z _⟩
      · by_cases hpos : 0 ≤ n
        · have hm : max n 0 = n := by omega
          go_wp2
          go_roundw
          case rel =>
            have := HS.out
            exact ⟨k + 1, by omega, by go_num, by rw [HS.out]; congr 1; omega, by omega, hb.alloc z _⟩
          case measure => simp [intOf]; omega
        · have hm : max n 0 = 0 := by omega
          go_wp2
          go_roundw
          case rel =>
            have := HS.out
            exact ⟨k + 1, by omega, by go_num, by rw [HS.out]; congr 1; omega, by omega, hb.alloc z _⟩
          case measure => simp [intOf]; omega
    · obtain rfl : k = l.length := by omega
      rw [List.take_length] at hn
      go_wp2
      go_ret
      exact ⟨by rw [List.take_length]; unfold totalOf; rw [if_pos hn]; rfl, hb⟩

set_option maxHeartbeats 600000 in
theorem runGood_any (A : Option Addr) (c B : Nat) (l : List RunP) (hf : Fits l) (hlen : l.length ≤ maxLen) (w : World) (hB : B ≤ w.heap.size) (h : Row w B A (flatR l)) :
    Calls Try.prog 61 #[.slice A l.length c] w fun e w' => e = .returned (.bool (goodB l)) ∧ Below w.heap.size w w' := by
  have hlen0 := hlen
  unfold maxLen at hlen
  have HF := Lib.hid hf
  clear hf
  go_enter Try.func61, Try.ntmps61
  go_wp2
  go_loopw [7] (fun i wr => ∃ k : Nat, k ≤ l.length ∧ i = .int .i64 k ∧ Hid (Neat (l.take k)) ∧ Below w.heap.size w wr) (fun i _ => l.length - (intOf i).toNat)
  case atStart => exact ⟨0, Nat.zero_le _, rfl, .nil, Below.refl _ _⟩
  case round =>
    obtain ⟨k, hk, rfl, HN, hb⟩ := hrel
    have z := hb.size
    by_cases hlt : k < l.length
    · obtain ⟨ad, rfl, hbl, c0, c1⟩ := run_cells (h.below (hb.mono hB)) hlt
      have hfk := HF.out l[k] (List.getElem_mem hlt)
      by_cases h1 : l[k].2 < 1
      · have HG2 := Lib.hid (goodB_no hlt (.inl h1))
        generalize l[k] = r at *
        obtain ⟨x, n⟩ := r
        dsimp only at *
        go_wp2
        go_quiet (fail)
        go_wp2
        go_ret
        exact ⟨by rw [HG2.out]; rfl, below_drewN (hb.alloc z _) _⟩
      · by_cases h0 : 0 < k
        · obtain ⟨j, rfl⟩ : ∃ j, k = j + 1 := ⟨k - 1, by omega⟩
          obtain ⟨ad', e', hbl', d0, d1⟩ := run_cells (h.below (hb.mono hB)) (k := j) (by omega)
          cases e'
          have HG : Hid ((l[j]'(by omega)).1 = l[j + 1].1 → goodB l = false) := fun e => goodB_no hlt (.inr ⟨by omega, e⟩)
          have HT : Hid ((l[j]'(by omega)).1 ≠ l[j + 1].1 → Neat (l.take (j + 1 + 1))) := fun e => neat_take HN.out hlt (by omega) (fun _ => e)
          have hwj := wrap_small (j : Int) (by omega) (by omega)
          have hjl : j < l.length := by omega
          generalize l[j] = q at *
          generalize l[j + 1] = r at *
          obtain ⟨x, n⟩ := r
          obtain ⟨y, m⟩ := q
          dsimp only at *
          have hd1 : decide (n < 1) = false := decide_eq_false h1
          have hbb : (ad.add (j * 2)).block < wr.heap.size := by rw [add_block]; omega
          by_cases hxy : y = x
          · have HG2 := Lib.hid (HG.out hxy)
            clear HG HT
            subst hxy
            go_wp2
            go_quiet (fail)
            go_wp2
            go_ret
            exact ⟨by rw [HG2.out]; rfl, below_drewN (hb.alloc z _) _⟩
          · have HT2 := Lib.hid (HT.out hxy)
            clear HG HT
            have ht : ((y : Int) == (x : Int)) = false := by simp; omega
            go_wp2
            go_quiet (fail)
            go_wp2
            go_roundw
            case rel => exact ⟨j + 1 + 1, by omega, by go_num, HT2, below_drewN (hb.alloc z _) _⟩
            case measure => simp [intOf]; omega
        · have HT2 := Lib.hid (neat_take HN.out hlt (by omega) (fun h => absurd h h0))
          generalize l[k] = r at *
          obtain ⟨x, n⟩ := r
          dsimp only at *
          have hd1 : decide (n < 1) = false := decide_eq_false h1
          obtain rfl : k = 0 := by omega
          have hz : ad.add (0 * 2) = ad := rfl
          rw [hz] at c0 c1
          clear hz
          go_wp2
          go_quiet (fail)
          go_wp2
          go_roundw
          case rel => exact ⟨0 + 1, by omega, by go_num, HT2, below_drewN (hb.alloc z _) _⟩
          case measure => simp [intOf]; omega
    · obtain rfl : k = l.length := by omega
      rw [List.take_length] at HN
      have HG := Lib.hid (goodB_neat HN.out)
      go_wp2_with (go_at_call 62; refine (runTotal_any A c B l HF.out hlen0 wr (by omega) (h.below (hb.mono hB))).mono ?_; rintro e w1 ⟨rfl, hb1⟩)
      go_ret
      exact ⟨by rw [HG.out]; rfl, hb.trans (hb1.mono z)⟩

end Go.Proofs.Ytfeaffabminpfaa

/-
  Contracts of the landed package runs: At, All.
-/
namespace Go.Proofs.Ytfeaffabminpfaa
open Go.RowKit

end Go.Proofs.Ytfeaffabminpfaa

/-
  The closure that gathers runs (merged's): layer 3.
-/
namespace Go.Proofs.Ytfeaffabminpfaa
open Go.RowKit

/-- n bytes more of one label, onto a packed list -/
theorem pack_more (b : List Nat) (x : Nat) (n : Nat) (hn : 1 ≤ n) : pack (b ++ List.replicate n x) =
    match (pack b).getLast? with
    | none => [(x, (n : Int))]
    | some r => if r.1 = x then (pack b).dropLast ++ [(x, r.2 + n)] else pack b ++ [(x, (n : Int))] := by
  rcases snoc_cases (pack b) with e | ⟨m, r, e⟩
  · have hb : b = [] := by have := bytesOf_pack b; rw [e] at this; exact this.symm
    subst hb
    rw [e]
    have := pack_replicate (b := []) (l := []) rfl x n (fun m r e => by simp at e) hn
    simpa using this
  · rw [e, List.getLast?_concat]
    dsimp only
    by_cases hx : r.1 = x
    · rw [if_pos hx, List.dropLast_concat]
      have key : ∀ n, 1 ≤ n → pack (b ++ List.replicate n x) = m ++ [(x, r.2 + (n : Nat))] := by
        intro n
        induction n with
        | zero => intro h; omega
        | succ n ih =>
          intro _
          rw [List.replicate_succ', ← List.append_assoc, pack_snoc]
          by_cases h0 : n = 0
          · subst h0
            rw [List.replicate_zero, List.append_nil, e, packStep_snoc, if_pos hx]; rfl
          · rw [ih (by omega), packStep_snoc, if_pos rfl]
            congr 2
            exact Prod.ext rfl (by show r.2 + (n : Int) + 1 = r.2 + ((n + 1 : Nat) : Int); omega)
      exact key n hn
    · rw [if_neg hx]
      exact pack_replicate e x n (fun m' r' e' => by have : r = r' := by simpa using (List.append_inj' e' rfl).2
                                                     subst this; exact hx) hn
theorem pack_more_nil {b : List Nat} (x n : Nat) (hn : 1 ≤ n) (e : pack b = []) : pack (b ++ List.replicate n x) = [(x, (n : Int))] := by
  rw [pack_more b x n hn, e]; rfl
theorem pack_more_same {b : List Nat} {m : List RunP} {r : RunP} (n : Nat) (hn : 1 ≤ n) (e : pack b = m ++ [r]) : pack (b ++ List.replicate n r.1) = m ++ [(r.1, r.2 + n)] := by
  rw [pack_more b r.1 n hn, e, List.getLast?_concat]
  dsimp only
  rw [if_pos rfl, List.dropLast_concat]
theorem pack_more_other {b : List Nat} {m : List RunP} {r : RunP} (x n : Nat) (hn : 1 ≤ n) (e : pack b = m ++ [r]) (hx : r.1 ≠ x) : pack (b ++ List.replicate n x) = m ++ [r] ++ [(x, (n : Int))] := by
  rw [pack_more b x n hn, e, List.getLast?_concat]
  dsimp only
  rw [if_neg hx]

/-- what has been gathered: the variable 'list' in block g, its runs in a row of the call's own -/
def Gath (w : World) (base g : Nat) (b : List Nat) : Prop :=
  g < base ∧ base ≤ w.heap.size ∧ ∃ v, Blk w g 30 #[v] ∧ w.ownsRow base 71 2 v (pack b).length (flatR (pack b))
theorem Gath.alloc {w : World} {base g : Nat} {b : List Nat} (h : Gath w base g b) (o : Obj) : Gath (w.alloc o) base g b := by
  obtain ⟨h1, h2, v, h3, h4⟩ := h
  exact ⟨h1, by rw [World.size_alloc]; omega, v, h3.alloc o, h4.alloc o⟩
theorem Gath.drewN {w : World} {base g : Nat} {b : List Nat} (h : Gath w base g b) (n : Nat) : Gath (w.drewN n) base g b := by
  obtain ⟨h1, h2, v, h3, h4⟩ := h
  exact ⟨h1, h2, v, h3, own_keep h4 (below_drewN (Below.refl _ w) n) (Nat.le_refl _)⟩
/-- nothing is turned but the list's own, and what lies above -/
def Kept (_base g : Nat) (w w' : World) : Prop := Below g w w' ∧ ∀ k T cs, Blk w k T cs → k ≠ g → T ≠ 71 → Blk w' k T cs
theorem Kept.refl (base g : Nat) (w : World) : Kept base g w w := ⟨Below.refl _ _, fun _ _ _ h _ _ => h⟩
theorem Kept.trans {base g : Nat} {a b c : World} (h : Kept base g a b) (k : Kept base g b c) : Kept base g a c :=
  ⟨h.1.trans k.1, fun i T cs hb hi hT => k.2 i T cs (h.2 i T cs hb hi hT) hi hT⟩
theorem Kept.alloc {base g : Nat} {a b : World} (h : Kept base g a b) (hg : g ≤ b.heap.size) (o : Obj) : Kept base g a (b.alloc o) :=
  ⟨h.1.alloc hg o, fun i T cs hb hi hT => (h.2 i T cs hb hi hT).alloc o⟩
theorem Kept.drewN {base g : Nat} {a b : World} (h : Kept base g a b) (n : Nat) : Kept base g a (b.drewN n) :=
  ⟨below_drewN h.1 n, fun i T cs hb hi hT => h.2 i T cs hb hi hT⟩

theorem own_setFar {w : World} {base e size n : Nat} {v : Value} {xs : List Value} (h : w.ownsRow base e size v n xs) {p : Addr} (hp : p.block < base) (u : Value) : (w.setCell p u).ownsRow base e size v n xs := by
  refine ⟨h.1, ?_⟩
  rcases h.2 with h | ⟨g, cap, cur, rfl, hg, hh, h⟩
  · exact .inl h
  · exact .inr ⟨g, cap, cur, rfl, hg, (heap_setCell_other w p g u (by omega)).trans hh, h⟩
theorem own_notBlk {w : World} {base e size n : Nat} {v : Value} {xs : List Value} (h : w.ownsRow base e size v n xs) {k T : Nat} {cs : Array Value} (hb : Blk w k T cs) (hT : T ≠ e) : v.ownBlock ≠ some k := by
  rcases h.2 with ⟨rfl, _⟩ | ⟨g, cap, cur, rfl, hg, hh, _⟩
  · simp [Value.ownBlock]
  · intro e1
    have : g = k := by simpa [Value.ownBlock] using e1
    subst this
    unfold Blk at hb
    rw [hh] at hb
    simp at hb
    exact hT hb.2.symm
theorem own_notLow {w : World} {base e size n : Nat} {v : Value} {xs : List Value} (h : w.ownsRow base e size v n xs) {k : Nat} (hk : k < base) : v.ownBlock ≠ some k := by
  intro e1
  have := (h.lt k e1).1
  omega
theorem own_low {w : World} {base e size n c : Nat} {A : Option Addr} {xs : List Value} (h : w.ownsRow base e size (.slice A n c) n xs) {k : Nat} (hk : k < base) (n' : Nat) : (Value.slice A n' c).ownBlock ≠ some k := by
  have := own_notLow h hk
  cases A with
  | none => simp [Value.ownBlock]
  | some a => simpa [Value.ownBlock] using this
theorem size_after (w : World) (o : Obj) (k : Nat) : w.heap.size + 1 = ((w.alloc o).drewN k).heap.size := by show _ = (w.alloc o).heap.size; simp
/-- the way of a run that is laid behind -/
theorem gath_push {w w3 : World} {base g n : Nat} {b' : List Nat} {v v3 : Value} {o : Obj} {k : Nat} {xs : List Value} (h1 : g < base) (h2 : base ≤ w.heap.size) (hv : Blk w g 30 #[v]) (hown : w.ownsRow base 71 2 v n xs)
    (hb3 : Below base ((w.alloc o).drewN k) w3) (hfar : ∀ i, i < ((w.alloc o).drewN k).heap.size → v.ownBlock ≠ some i → w3.heap[i]? = ((w.alloc o).drewN k).heap[i]?)
    (hown3 : w3.ownsRow base 71 2 v3 (pack b').length (flatR (pack b'))) :
    Gath (w3.setCell ⟨g, 0, none⟩ v3) base g b' ∧ Kept base g w (w3.setCell ⟨g, 0, none⟩ v3) := by
  have hz : ((w.alloc o).drewN k).heap.size = w.heap.size + 1 := by show (w.alloc o).heap.size = _; simp
  have hs := hb3.size
  have hv3 : Blk w3 g 30 #[v] := (hfar g (by omega) (own_notLow hown h1)).trans (hv.alloc o)
  refine ⟨⟨h1, ?_, v3, ?_, own_setFar hown3 h1 _⟩, ?_, ?_⟩
  · have : (w3.setCell ⟨g, 0, none⟩ v3).heap.size = w3.heap.size := by simp
    omega
  · simpa using hv3.set_ 0 v3
  · have e1 : Below g w ((w.alloc o).drewN k) := below_drewN ((Below.refl g w).alloc (by omega) o) k
    exact (e1.trans (hb3.mono (by omega))).setCell (by show g ≤ g; omega) _
  · intro i T cs hb hi hT
    have hb' : Blk w3 i T cs := (hfar i (by have := hb.lt; omega) (own_notBlk hown hb hT)).trans (hb.alloc o)
    exact hb'.far hi _

/-- the way of a run that is added to the last one -/
theorem gath_add {w : World} {base g g1 c : Nat} {m : List RunP} {r : RunP} (h1 : g < base) (h2 : base ≤ w.heap.size) (hv : Blk w g 30 #[.slice (some ⟨g1, 0, none⟩) (m.length + 1) c])
    (hown : w.ownsRow base 71 2 (.slice (some ⟨g1, 0, none⟩) (m.length + 1) c) (m.length + 1) (flatR (m ++ [r]))) (o : Obj) (k : Nat) (n : Int) (b' : List Nat) (hp : pack b' = m ++ [(r.1, n)]) :
    Gath (((w.alloc o).drewN k).setCell ⟨g1, m.length * 2 + 1, none⟩ (.int .i64 n)) base g b' ∧ Kept base g w (((w.alloc o).drewN k).setCell ⟨g1, m.length * 2 + 1, none⟩ (.int .i64 n)) := by
  have hz : ((w.alloc o).drewN k).heap.size = w.heap.size + 1 := (size_after w o k).symm
  have hg1 : base ≤ g1 := (hown.lt g1 rfl).1
  have hd : ((w.alloc o).drewN k).ownsRow base 71 2 (.slice (some ⟨g1, 0, none⟩) (m.length + 1) c) (m.length + 1) (flatR (m ++ [r])) := own_keep (hown.alloc o) (below_drewN (Below.refl _ _) k) (Nat.le_refl _)
  refine ⟨⟨h1, ?_, .slice (some ⟨g1, 0, none⟩) (m.length + 1) c, ?_, ?_⟩, ?_, ?_⟩
  · have : (((w.alloc o).drewN k).setCell ⟨g1, m.length * 2 + 1, none⟩ (.int .i64 n)).heap.size = ((w.alloc o).drewN k).heap.size := by simp
    omega
  · exact Blk.far (hv.alloc o : Blk ((w.alloc o).drewN k) _ _ _) (by show g ≠ g1; omega) _
  · rw [hp]
    have := own_set hd (m.length * 2 + 1) (.int .i64 n)
    rw [flatR_set] at this
    simpa using this
  · have e1 : Below g w ((w.alloc o).drewN k) := below_drewN ((Below.refl g w).alloc (by omega) o) k
    exact e1.setCell (by show g ≤ g1; omega) _
  · intro i T cs hb hi hT
    exact Blk.far (hb.alloc o : Blk ((w.alloc o).drewN k) _ _ _) (fun e => own_notBlk hown hb hT (by show some g1 = some i; rw [e])) _

end Go.Proofs.Ytfeaffabminpfaa

/-
  The runs of some bytes, passed on one by one: layer 3.
-/
namespace Go.Proofs.Ytfeaffabminpfaa
open Go.RowKit

theorem cut_more (b : List Nat) (x N : Nat) (f t : Int) (h0 : 0 ≤ f) (h1 : f ≤ t) : cut (b ++ List.replicate N x) f t = cut b f t ++ List.replicate (min ((b.length : Int) + N) t - max (b.length : Int) f).toNat x := by
  unfold cut
  rw [List.drop_append, List.take_append, List.drop_replicate, List.take_replicate, List.length_drop]
  congr 2
  omega
theorem cut_nil (f t : Int) : cut [] f t = [] := by simp [cut]

end Go.Proofs.Ytfeaffabminpfaa

/-
  The good list of the runs that are passed: layer 3.
-/
namespace Go.Proofs.Ytfeaffabminpfaa
open Go.RowKit

end Go.Proofs.Ytfeaffabminpfaa

/-
  The landed Slice: layer 3.
-/
namespace Go.Proofs.Ytfeaffabminpfaa
open Go.RowKit

theorem goodB_nonneg {l : List RunP} (h : goodB l = true) : ∀ r ∈ l, 0 ≤ r.2 := by
  intro r hr
  obtain ⟨k, hk, rfl⟩ := List.getElem_of_mem hr
  have := ((neat_idx l).1 ((goodB_iff l).1 h).2 k hk).1
  omega

end Go.Proofs.Ytfeaffabminpfaa

/-
  The landed Normal: layer 3.
-/
namespace Go.Proofs.Ytfeaffabminpfaa
open Go.RowKit

end Go.Proofs.Ytfeaffabminpfaa

/-
  The landed Splice: layer 3.
-/
namespace Go.Proofs.Ytfeaffabminpfaa
open Go.RowKit

end Go.Proofs.Ytfeaffabminpfaa

/-
  The landed Splice, Cat: layer 3.
-/
namespace Go.Proofs.Ytfeaffabminpfaa
open Go.RowKit

theorem box_facts (w : World) (T0 T1 T2 T3 : TypeId) (v0 v1 v2 v3 : Value) :
    Below w.heap.size w ((((w.alloc (.cells #[v0] T0)).alloc (.cells #[v1] T1)).alloc (.cells #[v2] T2)).alloc (.cells #[v3] T3)) ∧
    ((((w.alloc (.cells #[v0] T0)).alloc (.cells #[v1] T1)).alloc (.cells #[v2] T2)).alloc (.cells #[v3] T3)).heap.size = w.heap.size + 4 ∧
    Blk ((((w.alloc (.cells #[v0] T0)).alloc (.cells #[v1] T1)).alloc (.cells #[v2] T2)).alloc (.cells #[v3] T3)) w.heap.size T0 #[v0] ∧
    Blk ((((w.alloc (.cells #[v0] T0)).alloc (.cells #[v1] T1)).alloc (.cells #[v2] T2)).alloc (.cells #[v3] T3)) (w.heap.size + 1) T1 #[v1] ∧
    Blk ((((w.alloc (.cells #[v0] T0)).alloc (.cells #[v1] T1)).alloc (.cells #[v2] T2)).alloc (.cells #[v3] T3)) (w.heap.size + 1 + 1) T2 #[v2] ∧
    Blk ((((w.alloc (.cells #[v0] T0)).alloc (.cells #[v1] T1)).alloc (.cells #[v2] T2)).alloc (.cells #[v3] T3)) (w.heap.size + 1 + 1 + 1) T3 #[v3] := by
  have e1 : (w.alloc (.cells #[v0] T0)).heap.size = w.heap.size + 1 := by simp
  have e2 : ((w.alloc (.cells #[v0] T0)).alloc (.cells #[v1] T1)).heap.size = w.heap.size + 1 + 1 := by simp
  have e3 : (((w.alloc (.cells #[v0] T0)).alloc (.cells #[v1] T1)).alloc (.cells #[v2] T2)).heap.size = w.heap.size + 1 + 1 + 1 := by simp
  refine ⟨((((Below.refl _ w).alloc (Nat.le_refl _) _).alloc (by omega) _).alloc (by omega) _).alloc (by omega) _, by simp, (((Blk.new w T0 #[v0]).alloc _).alloc _).alloc _, ?_, ?_, ?_⟩
  · rw [← e1]; exact ((Blk.new _ T1 #[v1]).alloc _).alloc _
  · rw [← e2]; exact (Blk.new _ T2 #[v2]).alloc _
  · rw [← e3]; exact Blk.new _ T3 #[v3]

theorem below_al {B : Nat} {a b : World} {o : Obj} (h : Below B a b) (hB : B ≤ a.heap.size) : Below B a (b.alloc o) := h.alloc (Nat.le_trans hB h.size) o
theorem below_dr {B : Nat} {a b : World} (h : Below B a b) : Below B a b.drew := h.drew
/-- a variable of the call's own, known and free -/
def Kn (w : World) (k : Nat) : Prop := w.cell? ⟨k, 0, none⟩ = some (.int .i64 0) ∧ w.frozen? ⟨k, 0, none⟩ = false ∧ k < w.heap.size ∧ k ≠ w.heap.size ∧ w.heap.size ≠ k
theorem kn_of {w : World} {k : Nat} (h : Blk w k 3 #[.int .i64 0]) : Kn w k := by
  have := h.lt
  exact ⟨by have := h.cell 0; simpa using this, h.frozen 0, this, by omega, by omega⟩
theorem kn_one {X w' : World} (hb : Below (X.alloc (.cells #[.int .i64 0] 3)).heap.size (X.alloc (.cells #[.int .i64 0] 3)) w') : Blk w' X.heap.size 3 #[.int .i64 0] :=
  (Blk.new X _ _).below hb (by simp)
theorem kn_one_drew {X w' : World} (hb : Below (X.alloc (.cells #[.int .i64 0] 3)).drew.heap.size (X.alloc (.cells #[.int .i64 0] 3)).drew w') : Blk w' X.heap.size 3 #[.int .i64 0] :=
  (Blk.new X _ _).drew.below hb (by show _ < (X.alloc _).heap.size; simp)
theorem kn_two {X w' : World} (hb : Below ((X.alloc (.cells #[.int .i64 0] 3)).alloc (.cells #[.int .i64 0] 3)).heap.size ((X.alloc (.cells #[.int .i64 0] 3)).alloc (.cells #[.int .i64 0] 3)) w') : Blk w' X.heap.size 3 #[.int .i64 0] ∧ Blk w' (X.heap.size + 1) 3 #[.int .i64 0] :=
  ⟨((Blk.new X _ _).alloc _).below hb (by simp; omega), by have := (Blk.new (X.alloc (.cells #[.int .i64 0] 3)) 3 #[.int .i64 0]).below hb (by simp); simpa using this⟩
theorem kn_two_drew {X w' : World} (hb : Below ((X.alloc (.cells #[.int .i64 0] 3)).alloc (.cells #[.int .i64 0] 3)).drew.heap.size ((X.alloc (.cells #[.int .i64 0] 3)).alloc (.cells #[.int .i64 0] 3)).drew w') : Blk w' X.heap.size 3 #[.int .i64 0] ∧ Blk w' (X.heap.size + 1) 3 #[.int .i64 0] :=
  kn_two ⟨hb.os, hb.tape, hb.output, hb.size, hb.block⟩
theorem blk_step {W w' : World} {k T : Nat} {cs : Array Value} (h : Blk W k T cs) (hb : Below W.heap.size W w') : Blk w' k T cs := h.below hb h.lt
theorem blk_new1 (X : World) (a : Obj) (T : TypeId) (cs : Array Value) : Blk ((X.alloc a).alloc (.cells cs T)) (X.heap.size + 1) T cs := by
  have := Blk.new (X.alloc a) T cs
  simpa using this
theorem blk_newS (X : World) (p : Addr) (u : Value) (T : TypeId) (cs : Array Value) : Blk ((X.setCell p u).alloc (.cells cs T)) X.heap.size T cs := by
  have := Blk.new (X.setCell p u) T cs
  simpa using this
theorem blk_set0 {X : World} {k T : Nat} {v : Value} (h : Blk X k T #[v]) (u : Value) : Blk (X.setCell ⟨k, 0, none⟩ u) k T #[u] := by
  have := h.set_ 0 u
  simpa using this
theorem use_fact {p G : Prop} (h : p) (k : p → G) : G := k h
theorem keep_S {P : World → Prop} {w2 : World} (h : ∀ w', Below w2.heap.size w2 w' → P w') : ∀ w', Below w2.heap.size w2 w' → P w' := h

end Go.Proofs.Ytfeaffabminpfaa

/-
  The landed Cat: layer 3.
-/
namespace Go.Proofs.Ytfeaffabminpfaa
open Go.RowKit

theorem cat_splice (a b : List RunP) : spliceOf a (totalOf a : Nat) (totalOf a : Nat) b = catOf a b := by
  by_cases ha : goodB a = true
  · have hw : withinB a (totalOf a : Nat) (totalOf a : Nat) = true := by unfold withinB; rw [ha]; simp
    have ht := totalOf_good ha
    by_cases hb : goodB b = true
    · by_cases hbig : (bytesOf a).length + (bytesOf b).length ≤ 4096
      · rw [catOf_ok ha hb hbig, spliceOf_ok hw hb (by omega), ht]
        simp
      · rw [catOf_big ha hb hbig, spliceOf_big hw hb (by omega)]
    · rw [catOf_bad (fun h => hb h.2), spliceOf_bad (fun h => hb h.2)]
  · have hw : ¬ withinB a (totalOf a : Nat) (totalOf a : Nat) = true := fun h => ha (within_of h).1
    rw [catOf_bad (fun h => ha h.1), spliceOf_bad (fun h => hw h.1)]

end Go.Proofs.Ytfeaffabminpfaa

/-
  The landed Raise: layer 3.
-/
namespace Go.Proofs.Ytfeaffabminpfaa
open Go.RowKit

theorem kept_below {base g : Nat} {a b : World} (h : Below a.heap.size a b) (hg : g ≤ a.heap.size) : Kept base g a b := ⟨h.mono hg, fun _ _ _ hb _ _ => hb.below h hb.lt⟩
theorem gath_below {base g : Nat} {a b : World} {l : List Nat} (hG : Gath a base g l) (h : Below a.heap.size a b) : Gath b base g l := by
  obtain ⟨h1, h2, v, h3, h4⟩ := hG
  have := h.size
  exact ⟨h1, by omega, v, h3.below h h3.lt, own_keep h4 h (Nat.le_refl _)⟩
theorem keep_K {P : World → Prop} {base g : Nat} {w2 : World} (h : ∀ w', Kept base g w2 w' → P w') : ∀ w', Kept base g w2 w' → P w' := h

end Go.Proofs.Ytfeaffabminpfaa

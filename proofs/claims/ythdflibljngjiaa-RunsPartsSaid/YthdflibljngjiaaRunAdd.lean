/-
  The closure that gathers runs (merged's): layer 3.
-/
import Derived.Test.YthdflibljngjiaaRunOwn
namespace Go.Proofs.Ythdflibljngjiaa
open Go.RowKit

/-- n bytes more of one label, onto a packed list -/
theorem pack_more (b : List Nat) (x : Nat) (n : Nat) (hn : 1 ≤ n) : pack (b ++ List.replicate n x) =
    match (pack b).getLast? with
    | none => [(x, (n : Int))]
    | some r => if r.1 = x then (pack b).dropLast ++ [(x, r.2 + n)] else pack b ++ [(x, (n : Int))] := by
  rcases snoc_cases (pack b) with e | ⟨m, r, e⟩
  · have hb : b = [] := by have := bytesOf_pack b; rw [e] at this; exact this.symm
    subst hb
    rw [e]
    have := pack_replicate (b := []) (l := []) rfl x n (fun m r e => by simp at e) hn
    simpa using this
  · rw [e, List.getLast?_concat]
    dsimp only
    by_cases hx : r.1 = x
    · rw [if_pos hx, List.dropLast_concat]
      have key : ∀ n, 1 ≤ n → pack (b ++ List.replicate n x) = m ++ [(x, r.2 + (n : Nat))] := by
        intro n
        induction n with
        | zero => intro h; omega
        | succ n ih =>
          intro _
          rw [List.replicate_succ', ← List.append_assoc, pack_snoc]
          by_cases h0 : n = 0
          · subst h0
            rw [List.replicate_zero, List.append_nil, e, packStep_snoc, if_pos hx]; rfl
          · rw [ih (by omega), packStep_snoc, if_pos rfl]
            congr 2
            exact Prod.ext rfl (by show r.2 + (n : Int) + 1 = r.2 + ((n + 1 : Nat) : Int); omega)
      exact key n hn
    · rw [if_neg hx]
      exact pack_replicate e x n (fun m' r' e' => by have : r = r' := by simpa using (List.append_inj' e' rfl).2
                                                     subst this; exact hx) hn
theorem pack_more_nil {b : List Nat} (x n : Nat) (hn : 1 ≤ n) (e : pack b = []) : pack (b ++ List.replicate n x) = [(x, (n : Int))] := by
  rw [pack_more b x n hn, e]; rfl
theorem pack_more_same {b : List Nat} {m : List RunP} {r : RunP} (n : Nat) (hn : 1 ≤ n) (e : pack b = m ++ [r]) : pack (b ++ List.replicate n r.1) = m ++ [(r.1, r.2 + n)] := by
  rw [pack_more b r.1 n hn, e, List.getLast?_concat]
  dsimp only
  rw [if_pos rfl, List.dropLast_concat]
theorem pack_more_other {b : List Nat} {m : List RunP} {r : RunP} (x n : Nat) (hn : 1 ≤ n) (e : pack b = m ++ [r]) (hx : r.1 ≠ x) : pack (b ++ List.replicate n x) = m ++ [r] ++ [(x, (n : Int))] := by
  rw [pack_more b x n hn, e, List.getLast?_concat]
  dsimp only
  rw [if_neg hx]

/-- what has been gathered: the variable 'list' in block g, its runs in a row of the call's own -/
def Gath (w : World) (base g : Nat) (b : List Nat) : Prop :=
  g < base ∧ base ≤ w.heap.size ∧ ∃ v, Blk w g 22 #[v] ∧ w.ownsRow base 51 2 v (pack b).length (flatR (pack b))
theorem Gath.alloc {w : World} {base g : Nat} {b : List Nat} (h : Gath w base g b) (o : Obj) : Gath (w.alloc o) base g b := by
  obtain ⟨h1, h2, v, h3, h4⟩ := h
  exact ⟨h1, by rw [World.size_alloc]; omega, v, h3.alloc o, h4.alloc o⟩
theorem Gath.drewN {w : World} {base g : Nat} {b : List Nat} (h : Gath w base g b) (n : Nat) : Gath (w.drewN n) base g b := by
  obtain ⟨h1, h2, v, h3, h4⟩ := h
  exact ⟨h1, h2, v, h3, own_keep h4 (below_drewN (Below.refl _ w) n) (Nat.le_refl _)⟩
/-- nothing is turned but the list's own, and what lies above -/
def Kept (_base g : Nat) (w w' : World) : Prop := Below g w w' ∧ ∀ k T cs, Blk w k T cs → k ≠ g → T ≠ 51 → Blk w' k T cs
theorem Kept.refl (base g : Nat) (w : World) : Kept base g w w := ⟨Below.refl _ _, fun _ _ _ h _ _ => h⟩
theorem Kept.trans {base g : Nat} {a b c : World} (h : Kept base g a b) (k : Kept base g b c) : Kept base g a c :=
  ⟨h.1.trans k.1, fun i T cs hb hi hT => k.2 i T cs (h.2 i T cs hb hi hT) hi hT⟩
theorem Kept.alloc {base g : Nat} {a b : World} (h : Kept base g a b) (hg : g ≤ b.heap.size) (o : Obj) : Kept base g a (b.alloc o) :=
  ⟨h.1.alloc hg o, fun i T cs hb hi hT => (h.2 i T cs hb hi hT).alloc o⟩
theorem Kept.drewN {base g : Nat} {a b : World} (h : Kept base g a b) (n : Nat) : Kept base g a (b.drewN n) :=
  ⟨below_drewN h.1 n, fun i T cs hb hi hT => h.2 i T cs hb hi hT⟩

theorem own_setFar {w : World} {base e size n : Nat} {v : Value} {xs : List Value} (h : w.ownsRow base e size v n xs) {p : Addr} (hp : p.block < base) (u : Value) : (w.setCell p u).ownsRow base e size v n xs := by
  refine ⟨h.1, ?_⟩
  rcases h.2 with h | ⟨g, cap, cur, rfl, hg, hh, h⟩
  · exact .inl h
  · exact .inr ⟨g, cap, cur, rfl, hg, (heap_setCell_other w p g u (by omega)).trans hh, h⟩
theorem own_notBlk {w : World} {base e size n : Nat} {v : Value} {xs : List Value} (h : w.ownsRow base e size v n xs) {k T : Nat} {cs : Array Value} (hb : Blk w k T cs) (hT : T ≠ e) : v.ownBlock ≠ some k := by
  rcases h.2 with ⟨rfl, _⟩ | ⟨g, cap, cur, rfl, hg, hh, _⟩
  · simp [Value.ownBlock]
  · intro e1
    have : g = k := by simpa [Value.ownBlock] using e1
    subst this
    unfold Blk at hb
    rw [hh] at hb
    simp at hb
    exact hT hb.2.symm
theorem own_notLow {w : World} {base e size n : Nat} {v : Value} {xs : List Value} (h : w.ownsRow base e size v n xs) {k : Nat} (hk : k < base) : v.ownBlock ≠ some k := by
  intro e1
  have := (h.lt k e1).1
  omega
theorem own_low {w : World} {base e size n c : Nat} {A : Option Addr} {xs : List Value} (h : w.ownsRow base e size (.slice A n c) n xs) {k : Nat} (hk : k < base) (n' : Nat) : (Value.slice A n' c).ownBlock ≠ some k := by
  have := own_notLow h hk
  cases A with
  | none => simp [Value.ownBlock]
  | some a => simpa [Value.ownBlock] using this
theorem size_after (w : World) (o : Obj) (k : Nat) : w.heap.size + 1 = ((w.alloc o).drewN k).heap.size := by show _ = (w.alloc o).heap.size; simp
/-- the way of a run that is laid behind -/
theorem gath_push {w w3 : World} {base g n : Nat} {b' : List Nat} {v v3 : Value} {o : Obj} {k : Nat} {xs : List Value} (h1 : g < base) (h2 : base ≤ w.heap.size) (hv : Blk w g 22 #[v]) (hown : w.ownsRow base 51 2 v n xs)
    (hb3 : Below base ((w.alloc o).drewN k) w3) (hfar : ∀ i, i < ((w.alloc o).drewN k).heap.size → v.ownBlock ≠ some i → w3.heap[i]? = ((w.alloc o).drewN k).heap[i]?)
    (hown3 : w3.ownsRow base 51 2 v3 (pack b').length (flatR (pack b'))) :
    Gath (w3.setCell ⟨g, 0, none⟩ v3) base g b' ∧ Kept base g w (w3.setCell ⟨g, 0, none⟩ v3) := by
  have hz : ((w.alloc o).drewN k).heap.size = w.heap.size + 1 := by show (w.alloc o).heap.size = _; simp
  have hs := hb3.size
  have hv3 : Blk w3 g 22 #[v] := (hfar g (by omega) (own_notLow hown h1)).trans (hv.alloc o)
  refine ⟨⟨h1, ?_, v3, ?_, own_setFar hown3 h1 _⟩, ?_, ?_⟩
  · have : (w3.setCell ⟨g, 0, none⟩ v3).heap.size = w3.heap.size := by simp
    omega
  · simpa using hv3.set_ 0 v3
  · have e1 : Below g w ((w.alloc o).drewN k) := below_drewN ((Below.refl g w).alloc (by omega) o) k
    exact (e1.trans (hb3.mono (by omega))).setCell (by show g ≤ g; omega) _
  · intro i T cs hb hi hT
    have hb' : Blk w3 i T cs := (hfar i (by have := hb.lt; omega) (own_notBlk hown hb hT)).trans (hb.alloc o)
    exact hb'.far hi _

/-- the way of a run that is added to the last one -/
theorem gath_add {w : World} {base g g1 c : Nat} {m : List RunP} {r : RunP} (h1 : g < base) (h2 : base ≤ w.heap.size) (hv : Blk w g 22 #[.slice (some ⟨g1, 0, none⟩) (m.length + 1) c])
    (hown : w.ownsRow base 51 2 (.slice (some ⟨g1, 0, none⟩) (m.length + 1) c) (m.length + 1) (flatR (m ++ [r]))) (o : Obj) (k : Nat) (n : Int) (b' : List Nat) (hp : pack b' = m ++ [(r.1, n)]) :
    Gath (((w.alloc o).drewN k).setCell ⟨g1, m.length * 2 + 1, none⟩ (.int .i64 n)) base g b' ∧ Kept base g w (((w.alloc o).drewN k).setCell ⟨g1, m.length * 2 + 1, none⟩ (.int .i64 n)) := by
  have hz : ((w.alloc o).drewN k).heap.size = w.heap.size + 1 := (size_after w o k).symm
  have hg1 : base ≤ g1 := (hown.lt g1 rfl).1
  have hd : ((w.alloc o).drewN k).ownsRow base 51 2 (.slice (some ⟨g1, 0, none⟩) (m.length + 1) c) (m.length + 1) (flatR (m ++ [r])) := own_keep (hown.alloc o) (below_drewN (Below.refl _ _) k) (Nat.le_refl _)
  refine ⟨⟨h1, ?_, .slice (some ⟨g1, 0, none⟩) (m.length + 1) c, ?_, ?_⟩, ?_, ?_⟩
  · have : (((w.alloc o).drewN k).setCell ⟨g1, m.length * 2 + 1, none⟩ (.int .i64 n)).heap.size = ((w.alloc o).drewN k).heap.size := by simp
    omega
  · exact Blk.far (hv.alloc o : Blk ((w.alloc o).drewN k) _ _ _) (by show g ≠ g1; omega) _
  · rw [hp]
    have := own_set hd (m.length * 2 + 1) (.int .i64 n)
    rw [flatR_set] at this
    simpa using this
  · have e1 : Below g w ((w.alloc o).drewN k) := below_drewN ((Below.refl g w).alloc (by omega) o) k
    exact e1.setCell (by show g ≤ g1; omega) _
  · intro i T cs hb hi hT
    exact Blk.far (hb.alloc o : Blk ((w.alloc o).drewN k) _ _ _) (fun e => own_notBlk hown hb hT (by show some g1 = some i; rw [e])) _

set_option maxHeartbeats 1000000 in
theorem runAdd_any (base g : Nat) (b : List Nat) (x : Nat) (n : Int) (hx : x < 18446744073709551616) (hn : -9223372036854775808 ≤ n ∧ n ≤ 1000000) (hb : b.length ≤ 1000000) (w : World) (h : Gath w base g b) :
    Calls Try.prog 46 #[.agg #[.int .u64 x, .int .i64 n], .pointer (some ⟨g, 0, none⟩)] w fun e w' => e = .returned (.tuple #[]) ∧ Gath w' base g (b ++ List.replicate n.toNat x) ∧ Kept base g w w' := by
  have HH := Lib.hid h
  obtain ⟨h1, h2, v, hv, hown⟩ := h
  have cv := hv.cell 0
  simp at cv
  obtain ⟨A1, c1, rfl⟩ := own_form hown
  have hgw : g < w.heap.size := by omega
  have hpl := pack_len b
  by_cases hn0 : n ≤ 0
  · go_enter Try.func46, Try.ntmps46
    go_wp2
    go_end0
    refine ⟨rfl, ?_, (Kept.refl base g w).alloc (by omega) _⟩
    rw [show n.toNat = 0 by omega, List.replicate_zero, List.append_nil]
    exact HH.out.alloc _
  · obtain ⟨N, rfl⟩ : ∃ N : Nat, n = (N : Int) := ⟨n.toNat, by omega⟩
    have hN : 1 ≤ N := by omega
    have hN2 : N ≤ 1000000 := by omega
    clear hn
    rw [Int.toNat_natCast]
    rcases snoc_cases (pack b) with e | ⟨m, r, e⟩
    · have HP := Lib.hid (pack_more_nil x N hN e)
      have HO : Hid (w.ownsRow base 51 2 (.slice A1 (pack b).length c1) (pack b).length (flatR (pack b))) := hown
      rw [e] at hown cv hv
      have HE := Lib.hid e
      clear e hpl
      have HD : Hid (∀ k, ((w.alloc (.cells #[.int .u64 (x : Nat), .int .i64 (N : Int)] 51)).drewN k).ownsRow base 51 2 (.slice A1 0 c1) 0 (flatR [])) := fun k => by
        have := own_keep (hown.alloc (.cells #[.int .u64 (x : Nat), .int .i64 (N : Int)] 51)) (below_drewN (Below.refl _ _) k) (Nat.le_refl _)
        exact this
      go_enter Try.func46, Try.ntmps46
      go_wp2
      go_quiet (fail)
      go_wp2_with (at_builtin; go_loud ((refine wpList_pushN rfl _ _ _ rfl base 51 _ 2 16 elt_run 51 (.slice A1 0 c1) 0 (flatR []) rfl (HD.out _) [.int .u64 (x : Nat), .int .i64 (N : Int)] (w.heap.size + 1) (size_after _ _ _) rfl rfl (by simp [Value.oneCell']) (by unfold maxLen; omega) (by omega) (by rw [← size_after]; omega) ?_); intro v3 w3 hown3 hb3 hfar3; obtain ⟨A3, c3, rfl⟩ := own_form hown3; have hv3 := (hfar3 g (by rw [← size_after]; omega) (own_low HO.out h1 _)).trans (hv.alloc _); have cv3 := Blk.cell hv3 0; have fv3 := Blk.frozen hv3 0; have HF3 := Lib.hid hfar3; clear hfar3))
      go_end0
      exact ⟨rfl, gath_push h1 h2 hv hown hb3 HF3.out (by rw [HP.out]; exact hown3)⟩
    · have hlm : (m ++ [r]).length = m.length + 1 := by simp
      have HO : Hid (w.ownsRow base 51 2 (.slice A1 (pack b).length c1) (pack b).length (flatR (pack b))) := hown
      rw [e] at hown hpl hv cv
      rw [hlm] at hown hpl hv cv
      have HLM := Lib.hid hlm
      clear hlm
      obtain ⟨g1, c1', e1, hg1, hg2⟩ := own_at hown (by omega)
      injection e1 with e2 e3 e4
      subst e2 e4
      clear e3
      have hwm := wrap_small (m.length : Int) (by omega) (by omega)
      obtain ⟨ad', e', _, k0, k1⟩ := run_cells (Row.of_own hown) (k := m.length) (by rw [HLM.out]; omega)
      cases e'
      rw [show (m ++ [r])[m.length]'(by rw [HLM.out]; omega) = r by simp] at k0 k1
      have hfz := own_frozen hown (m.length * 2 + 1)
      rw [← base_field] at hfz
      have hbb : ((⟨g1, 0, none⟩ : Addr).add (m.length * 2)).block < w.heap.size := by rw [add_block]; exact hg2
      have HE := Lib.hid e
      have HK := Lib.hid (gath_add (m := m) (r := r) h1 h2 hv hown)
      have HV := Lib.hid hv
      have HW := Lib.hid hown
      clear e hv hown
      have hr2 : 1 ≤ r.2 ∧ r.2 ≤ 1000000 := by have := pack_last_le HE.out; omega
      have hws := wrap_small (r.2 + N) (by omega) (by omega)
      by_cases hrx : r.1 = x
      · subst hrx
        have HP := Lib.hid (pack_more_same N hN HE.out)
        rw [← base_field] at HK
        generalize hg1e : (⟨g1, 0, none⟩ : Addr) = ad1 at *
        have HG := Lib.hid hg1e
        clear hg1e
        go_enter Try.func46, Try.ntmps46
        go_wp2
        go_quiet (fail)
        go_wp2
        go_region
        go_wp2
        go_end0
        exact ⟨rfl, HK.out _ _ _ _ HP.out⟩
      · have HP := Lib.hid (pack_more_other x N hN HE.out hrx)
        have ht : ((r.1 : Int) == (x : Int)) = false := by simp; omega
        have HD : Hid (∀ k, ((w.alloc (.cells #[.int .u64 (x : Nat), .int .i64 (N : Int)] 51)).drewN k).ownsRow base 51 2 (.slice (some ⟨g1, 0, none⟩) (m.length + 1) c1) (m.length + 1) (flatR (m ++ [r]))) := fun k => by
          have := own_keep (HW.out.alloc (.cells #[.int .u64 (x : Nat), .int .i64 (N : Int)] 51)) (below_drewN (Below.refl _ _) k) (Nat.le_refl _)
          exact this
        have HL := Lib.hid (own_low HW.out h1)
        generalize hg1e : (⟨g1, 0, none⟩ : Addr) = ad1 at *
        have HG := Lib.hid hg1e
        clear hg1e HK
        go_enter Try.func46, Try.ntmps46
        go_wp2
        go_quiet (fail)
        go_wp2_with (at_builtin; go_loud ((refine wpList_pushN rfl _ _ _ rfl base 51 _ 2 16 elt_run 51 (.slice (some ad1) (m.length + 1) c1) (m.length + 1) (flatR (m ++ [r])) rfl (HD.out _) [.int .u64 (x : Nat), .int .i64 (N : Int)] (w.heap.size + 1) (size_after _ _ _) rfl rfl (by simp [Value.oneCell']) (by unfold maxLen; omega) (by omega) (by rw [← size_after]; omega) ?_); intro v3 w3 hown3 hb3 hfar3; obtain ⟨A3, c3, rfl⟩ := own_form hown3; have hv3 := (hfar3 g (by rw [← size_after]; omega) (HL.out _)).trans (HV.out.alloc _); have cv3 := Blk.cell hv3 0; have fv3 := Blk.frozen hv3 0; have HF3 := Lib.hid hfar3; clear hfar3))
        go_end0
        exact ⟨rfl, gath_push h1 h2 HV.out HW.out hb3 HF3.out (by rw [HP.out, List.length_append, HLM.out, flatR_snoc]; exact hown3)⟩
end Go.Proofs.Ythdflibljngjiaa

/-
  What lies in memory while replaced builds its text; the closure that keeps bytes: layer 15.
-/
import Derived.Test.YtgmeamefbfgbgaaDoorSuBld
import Derived.Test.YtgmeamefbfgbgaaDoorSuLab
namespace Go.Proofs.YtgmeamefbfgbgaaDoor
open Go.RowKit
set_option maxRecDepth 100000

theorem KeptT.own {T1 T2 : Nat} {w w' : World} (h : KeptT T1 T2 w w') {base e size n : Nat} {v : Value} {xs : List Value} (ho : w.ownsRow base e size v n xs) (h1 : e ≠ T1) (h2 : e ≠ T2) : w'.ownsRow base e size v n xs := by
  refine ⟨ho.1, ?_⟩
  rcases ho.2 with h0 | ⟨g, cap, cur, hv, hg, hh, hr⟩
  · exact .inl h0
  · exact .inr ⟨g, cap, cur, hv, hg, h g e cur hh h1 h2, hr⟩
theorem KeptT.bld {T1 T2 : Nat} {w w' : World} (h : KeptT T1 T2 w w') {B b : Nat} {l : List UInt8} (ho : BldIs B b l w) (h1 : 5 ≠ T1) (h2 : 5 ≠ T2) (h3 : 103 ≠ T1) (h4 : 103 ≠ T2) : BldIs B b l w' := by
  rcases ho with ⟨q1, v, q2, q3, q4⟩ | ⟨q1, v, q2, q3, q4⟩
  · exact .inl ⟨q1, v, h b _ _ q2 h3 h4, h.own q3 h1 h2, q4⟩
  · exact .inr ⟨q1, v, h b _ _ q2 h3 h4, h.own q3 h1 h2, q4⟩
/-- the variables of replaced: the string, its labels, the job, the answer, the builder, the runs, the place -/
structure RepW (w : World) (g : Nat) (S : List UInt8) (vL : Value) (J : Array Value) (D : List UInt8) (M : List RunP) (p : Nat) : Prop where
  s : Blk w g 9 #[.string ⟨S.toArray⟩]
  l : Blk w (g + 1) 62 #[vL]
  j : Blk w (g + 2) 28 J
  t : Blk w (g + 3) 24 #[.string ⟨#[]⟩, .slice none 0 0]
  b : BldIs (g + 4) (g + 4) D w
  r : ∃ v, Blk w (g + 5) 22 #[v] ∧ w.ownsRow (g + 7) 51 2 v M.length (flatR M)
  a : Blk w (g + 6) 3 #[.int .i64 (p : Nat)]
  hi : g + 7 ≤ w.heap.size
section
variable {w w' : World} {g : Nat} {S D : List UInt8} {vL : Value} {J : Array Value} {M : List RunP} {p : Nat}
/-- bytes more in the builder -/
theorem RepW.write (h : RepW w g S vL J D M p) {D' : List UInt8} (hb : BldIs (g + 4) (g + 4) D' w') (hz : Below (g + 4) w w') (hk : ∀ k T cs, Blk w k T cs → k ≠ g + 4 → T ≠ 5 → Blk w' k T cs) : RepW w' g S vL J D' M p := by
  obtain ⟨v, r1, r2⟩ := h.r
  refine ⟨hk _ _ _ h.s (by omega) (by decide), hk _ _ _ h.l (by omega) (by decide), hk _ _ _ h.j (by omega) (by decide), hk _ _ _ h.t (by omega) (by decide), hb, ⟨v, hk _ _ _ r1 (by omega) (by decide), r2.1, ?_⟩, hk _ _ _ h.a (by omega) (by decide), Nat.le_trans h.hi hz.size⟩
  rcases r2.2 with h0 | ⟨k, cap, cur, hv, hg, hh, hr⟩
  · exact .inl h0
  · exact .inr ⟨k, cap, cur, hv, hg, hk k _ cur hh (by omega) (by decide), hr⟩
/-- a run more -/
theorem RepW.push (h : RepW w g S vL J D M p) {v v3 : Value} {w3 : World} {x : Nat} {n : Int} (hv : Blk w (g + 5) 22 #[v]) (ho : w.ownsRow (g + 7) 51 2 v M.length (flatR M)) (h3 : w3.ownsRow (g + 7) 51 2 v3 (M.length + 1) (flatR M ++ [.int .u64 (x : Nat), .int .i64 n]))
    (hb : Below (g + 7) w w3) (hf : ∀ k, k < w.heap.size → v.ownBlock ≠ some k → w3.heap[k]? = w.heap[k]?) :
    RepW (w3.setCell ⟨g + 5, 0, none⟩ v3) g S vL J D (M ++ [(x, n)]) p ∧ Below g w (w3.setCell ⟨g + 5, 0, none⟩ v3) := by
  have hk : ∀ k T cs, Blk w k T cs → T ≠ 51 → Blk w3 k T cs := fun k T cs hk hT => (hf k hk.lt (own_notBlk ho hk hT)).trans hk
  have hk2 : KeptT 51 22 w (w3.setCell ⟨g + 5, 0, none⟩ v3) := fun k T cs hb h1 h2 => by
    refine (hk k T cs hb h1).far ?_ _
    rintro rfl
    have := hb.symm.trans hv
    simp at this
    exact h2 this.2
  have hs := hb.size
  refine ⟨⟨hk2 _ _ _ h.s (by decide) (by decide), hk2 _ _ _ h.l (by decide) (by decide), hk2 _ _ _ h.j (by decide) (by decide), hk2 _ _ _ h.t (by decide) (by decide), hk2.bld h.b (by decide) (by decide) (by decide) (by decide), ⟨v3, ?_, ?_⟩, hk2 _ _ _ h.a (by decide) (by decide), ?_⟩, ?_⟩
  · simpa using (hk _ _ _ hv (by decide)).set_ 0 v3
  · rw [List.length_append, flatR_snoc]
    exact own_setFar h3 (by show g + 5 < g + 7; omega) _
  · have := h.hi
    have e : (w3.setCell ⟨g + 5, 0, none⟩ v3).heap.size = w3.heap.size := by simp
    omega
  · exact (hb.mono (by omega)).setCell (by show g ≤ g + 5; omega) _
/-- another place -/
theorem RepW.at_ (h : RepW w g S vL J D M p) (q : Nat) : RepW (w.setCell ⟨g + 6, 0, none⟩ (.int .i64 (q : Nat))) g S vL J D M q := by
  have hk2 : KeptT 3 3 w (w.setCell ⟨g + 6, 0, none⟩ (.int .i64 (q : Nat))) := fun k T cs hb h1 _ => by
    refine hb.far ?_ _
    rintro rfl
    have := hb.symm.trans h.a
    simp at this
    exact h1 this.2
  obtain ⟨v, r1, r2⟩ := h.r
  refine ⟨hk2 _ _ _ h.s (by decide) (by decide), hk2 _ _ _ h.l (by decide) (by decide), hk2 _ _ _ h.j (by decide) (by decide), hk2 _ _ _ h.t (by decide) (by decide), hk2.bld h.b (by decide) (by decide) (by decide) (by decide), ⟨v, hk2 _ _ _ r1 (by decide) (by decide), hk2.own r2 (by decide) (by decide)⟩, ?_, ?_⟩
  · simpa using h.a.set_ 0 (.int .i64 (q : Nat))
  · have := h.hi
    have e : (w.setCell ⟨g + 6, 0, none⟩ (.int .i64 (q : Nat))).heap.size = w.heap.size := by simp
    omega
end
/-- bytes that are kept, as runs -/
def keepR (L : List Nat) : List RunP := L.map fun x => (x, 1)
theorem keepR_snoc (L : List Nat) (x : Nat) : keepR (L ++ [x]) = keepR L ++ [(x, 1)] := by simp [keepR]
theorem keepR_bytes (L : List Nat) : bytesOf (keepR L) = L := by
  induction L with
  | nil => rfl
  | cons x L ih => rw [show keepR (x :: L) = (x, 1) :: keepR L from rfl, bytesOf_cons, ih]; rfl
theorem keepR_len (L : List Nat) : (keepR L).length = L.length := by simp [keepR]

set_option maxHeartbeats 4000000 in
theorem suKeep_any (g : Nat) (S : List UInt8) (L : List Nat) (AL : Option Addr) (cL : Nat) (J : Array Value) (D : List UInt8) (M : List RunP) (p q : Nat) (hpq : p ≤ q) (hq : q ≤ S.length) (hS : S.length ≤ 5000) (hL : L.length = S.length) (hcL : L.length ≤ cL) (hx : ∀ x ∈ L, x < 18446744073709551616) (hD : D.length ≤ 100000) (hM : M.length ≤ 100000) (w : World) (hrow : Row w g AL (L.map u64v)) (h : RepW w g S (.slice AL L.length cL) J D M p) :
    Calls Tryd.prog 61 #[.int .i64 (q : Nat), .pointer (some ⟨g + 4, 0, none⟩), .pointer (some ⟨g, 0, none⟩), .pointer (some ⟨g + 6, 0, none⟩), .pointer (some ⟨g + 1, 0, none⟩), .pointer (some ⟨g + 5, 0, none⟩)] w fun e w' => e = .returned (.tuple #[]) ∧ RepW w' g S (.slice AL L.length cL) J (D ++ (S.drop p).take (q - p)) (M ++ keepR ((L.drop p).take (q - p))) p ∧ Below g w w' := by
  have HH := Lib.hid h
  have HR := Lib.hid hrow
  have HX := Lib.hid hx
  have HL := Lib.hid hL
  clear hrow hx hL
  have x0 : (0 : Int) ≤ (p : Int) := by omega
  have x1 : (p : Int) ≤ (q : Int) := by omega
  have x2 : (q : Int) ≤ (S.length : Int) := by omega
  have s0 := h.s.cell 0
  have a0 := h.a.cell 0
  simp at s0 a0
  clear h
  have HW := Lib.hid (fun (wx : World) (hw : RepW wx g S (.slice AL L.length cL) J D M p) => bldWrite2_any (g + 4) (g + 4) D ((S.drop p).take (q - p)) wx hw.b (by simp; omega) (by have := hw.hi; omega))
  simp only [← text_cut] at HW
  go_enter Tryd.func61, Tryd.ntmps61
  go_upto_region 1 with (go_at_call 62; refine (HW.out _ HH.out).mono ?_; rintro e w1 ⟨⟨nn, rfl⟩, hbl, hb1, hk1⟩; have H1 := Lib.hid (HH.out.write hbl hb1 hk1); have B1 : Below g w w1 := hb1.mono (by omega))
  clear s0 a0 HW HH hbl hb1 hk1
  have l0 := H1.out.l.cell 0
  have a0 := H1.out.a.cell 0
  simp at l0 a0
  have x3 : (q : Int) ≤ (cL : Int) := by have := HL.out; omega
  obtain ⟨D1, hD1⟩ : ∃ D1, D ++ (S.drop p).take (q - p) = D1 := ⟨_, rfl⟩
  rw [hD1] at H1
  have HD1 := Lib.hid hD1
  clear hD1
  go_cut [14, 17, 18, 19] (fun s14 s17 s18 s19 wx => s14 = .slice AL L.length cL ∧ (∃ AX cx, s17 = .slice AX (q - p) cx ∧ (p < q → AX = AL.map fun a => a.add p)) ∧ s18 = .int .i64 ((q - p : Nat) : Int) ∧ s19 = .int .i64 0 ∧ wx = w1)
  case first =>
    by_cases hc : cL = p
    · go_wp2_with fail
      go_meet
      exact ⟨by rw [hc], ⟨_, _, rfl, fun h => by have := HL.out; omega⟩, rfl, rfl, rfl⟩
    · go_wp2_with fail
      go_meet
      exact ⟨rfl, ⟨_, _, rfl, fun _ => rfl⟩, rfl, rfl, rfl⟩
  case rest =>
    obtain ⟨rfl, ⟨AX, cx, rfl, hAX⟩, rfl, rfl, rfl⟩ := hcut
    clear l0 a0
    have HA := Lib.hid hAX
    clear hAX
    go_upto_region 2 with fail
    go_loopw [8, 19] (fun _ i wx => ∃ k : Nat, k ≤ q - p ∧ i = .int .i64 k ∧ RepW wx g S (.slice AL L.length cL) J D1 (M ++ keepR ((L.drop p).take k)) p ∧ Below g w wx) (fun _ i _ => (q - p) - (intOf i).toNat)
    case atStart => exact ⟨0, Nat.zero_le _, rfl, by rw [List.take_zero]; simpa [keepR] using H1.out, B1⟩
    case round =>
      clear H1 B1
      obtain ⟨k, hk, rfl, h, hb⟩ := hrel
      by_cases hlt : k < q - p
      · have hpk : p + k < L.length := by have := HL.out; omega
        obtain ⟨ad, hAL, hbl, hcell⟩ := (HR.out.below hb).map_at hpk
        have hx := HX.out _ (List.getElem_mem hpk)
        have HT : Hid ((L.drop p).take (k + 1) = (L.drop p).take k ++ [L[p + k]]) := by
          show _ = _
          rw [List.take_succ_eq_append_getElem (by rw [List.length_drop]; omega), List.getElem_drop]
        generalize L[p + k] = x at *
        have hAX := HA.out (by omega)
        subst hAL
        subst hAX
        rw [← Addr.add_add] at hcell
        replace hcell : wr.cell? ((ad.add p).add k) = some (.int .u64 (x : Nat)) := hcell
        obtain ⟨v, r1, r2⟩ := h.r
        obtain ⟨A1, c1, rfl⟩ := own_form r2
        have hMl : (M ++ keepR ((L.drop p).take k)).length ≤ 200000 := by
          rw [List.length_append, keepR_len, List.length_take]
          omega
        have HMT : Hid (M ++ keepR ((L.drop p).take (k + 1)) = (M ++ keepR ((L.drop p).take k)) ++ [(x, 1)]) := by show _ = _; rw [HT.out, keepR_snoc, List.append_assoc]
        generalize M ++ keepR ((L.drop p).take k) = M1 at *
        have hz := h.hi
        have cv := r1.cell 0
        simp at cv
        have HP := Lib.hid (fun (v3 : Value) (w3 : World) h3 hb3 hf3 => h.push (v3 := v3) (w3 := w3) (x := x) (n := 1) r1 r2 h3 hb3 hf3)
        have HO := Lib.hid r2
        have HV := Lib.hid r1
        clear r1 r2 h
        go_wp2_with (at_builtin; refine wpList_pushN rfl _ _ _ rfl (g + 7) 51 _ 2 16 elt_run _ _ _ _ rfl HO.out [.int .u64 (x : Nat), .int .i64 1] _ rfl rfl rfl (by simp [Value.oneCell']) (by unfold maxLen; omega) (by omega) hz ?_; intro v3 w3 hown3 hb3 hfar3; obtain ⟨A3, c3, rfl⟩ := own_form hown3; have hv3 := (hfar3 (g + 5) (by omega) (own_low HO.out (by omega) _)).trans HV.out; have cv3 := Blk.cell hv3 0; have fv3 := Blk.frozen hv3 0; simp at cv3; have HQ := Lib.hid (HP.out _ w3 hown3 hb3 hfar3); clear hfar3 hown3 hv3)
        go_roundw
        case rel => exact ⟨k + 1, by omega, by go_num, by rw [HMT.out]; exact HQ.out.1, hb.trans HQ.out.2⟩
        case measure => simp [intOf]; omega
      · obtain rfl : k = q - p := by omega
        go_wp2_with fail
        go_end0
        rw [HD1.out]
        exact ⟨rfl, h, hb⟩
end Go.Proofs.YtgmeamefbfgbgaaDoor

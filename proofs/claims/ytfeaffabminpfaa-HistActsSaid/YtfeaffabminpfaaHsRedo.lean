/-
  Contracts of the document's own answers, layer 8: Redo.
-/
import Derived.Test.YtfeaffabminpfaaHsUndo
namespace Go.Proofs.Ytfeaffabminpfaa
open Go.RowKit

set_option maxHeartbeats 4000000 in
theorem refHRedo_none (A : Option Addr) (c B : Nat) (L : List StP) (now next depth : Int) (hL : L.length ≤ 1000) (w : World) (hB : B ≤ w.heap.size) (h : Row w B A (flatS L)) (hno : ∀ (i : Nat) (hi : i < L.length), L[i].up ≠ now) :
    Calls Try.prog 16 #[.agg #[.slice A L.length c, .int .i64 now, .int .i64 next, .int .i64 depth]] w fun e w' => e = .returned (.tuple #[.agg #[.slice A L.length c, .int .i64 now, .int .i64 next, .int .i64 depth], .agg #[.int .i64 0, .string ⟨#[]⟩, .slice none 0 0, .string ⟨#[]⟩, .slice none 0 0], .int .i64 6]) ∧ Below w.heap.size w w' := by
  have BX := Lib.hid (boxesE3 w 28 28 34 #[.slice A L.length c, .int .i64 now, .int .i64 next, .int .i64 depth] #[.slice none 0 0, .int .i64 0, .int .i64 0, .int .i64 0] #[.int .i64 0, .string ⟨#[]⟩, .slice none 0 0, .string ⟨#[]⟩, .slice none 0 0])
  have K := Lib.hid (BX.out.and ((grow_rowB h hB).step BX.out.now.2.2.2))
  have HN := Lib.hid hno
  clear h BX hno
  obtain ⟨y0, y1, y2, y3⟩ := hi_cells K.out.now.1.1
  go_enter Try.func16, Try.ntmps16
  go_wp2_with fail
  clear y0 y1 y2 y3
  generalize ((w.alloc (.cells #[.slice A L.length c, .int .i64 now, .int .i64 next, .int .i64 depth] 28)).alloc (.cells #[.slice none 0 0, .int .i64 0, .int .i64 0, .int .i64 0] 28)).alloc (.cells #[.int .i64 0, .string ⟨#[]⟩, .slice none 0 0, .string ⟨#[]⟩, .slice none 0 0] 34) = wb at *
  go_loopw [5] (fun i wr => ∃ (x : Int) (j : Nat), i = .int .i64 x ∧ x = (j : Int) - 1 ∧ j ≤ L.length ∧ Below wb.heap.size wb wr) (fun i _ => (intOf i + 1).toNat)
  case atStart => exact ⟨_, L.length, rfl, rfl, Nat.le_refl _, Below.refl _ _⟩
  case round =>
    obtain ⟨x, j, rfl, hx, hj, hb⟩ := hrel
    have KR := Lib.hid (K.out _ hb)
    obtain ⟨y0, y1, y2, y3⟩ := hi_cells KR.out.1.1
    rcases j with _ | j
    · have hxn : x < 0 := by omega
      clear hx
      obtain ⟨⟨v0, v1, v2, v3⟩, v4, v5, v6, v7⟩ := hi_var KR.out.1.2.1
      obtain ⟨⟨t0, t1, t2, t3, t4⟩, t5, t6, t7, t8, t9⟩ := ed_var KR.out.1.2.2.1
      go_wp2_with fail
      have E1 := five_far (hi_four KR.out.1.2.1 (.slice A L.length c) (.int .i64 now) (.int .i64 next) (.int .i64 depth)) (show w.heap.size + 1 ≠ w.heap.size + 1 + 1 by omega) (.int .i64 0) (.string ⟨#[]⟩) (.slice none 0 0) (.string ⟨#[]⟩) (.slice none 0 0)
      have E2 := blk_five (four_far KR.out.1.2.2.1 (show w.heap.size + 1 + 1 ≠ w.heap.size + 1 by omega) (.slice A L.length c) (.int .i64 now) (.int .i64 next) (.int .i64 depth)) (.int .i64 0) (.string ⟨#[]⟩) (.slice none 0 0) (.string ⟨#[]⟩) (.slice none 0 0)
      refine ret_hist_edit rfl _ _ (w.heap.size + 1) (w.heap.size + 1 + 1) _ _ _ _ _ _ _ _ _ rfl rfl E1 E2 rfl ?_
      exact ⟨rfl, below_five (below_four KR.out.1.2.2.2 (by omega) _ _ _ _) (by omega) _ _ _ _ _⟩
    · obtain rfl : x = (j : Int) := by omega
      have hjl : j < L.length := by omega
      clear hx
      obtain ⟨ad, rfl, _, d0, d1, _⟩ := st_at KR.out.2 hjl
      have hne := HN.out j hjl
      generalize L[j] = s at *
      obtain ⟨n1, up, e⟩ := s
      dsimp only at d0 d1 hne
      have ht : (up == now) = false := by rw [beq_eq_false_iff_ne]; exact hne
      clear hne
      go_wp2_with fail
      go_quiet (fail)
      go_wp2
      go_roundw
      case rel => exact ⟨(j : Int) - 1, j, rfl, rfl, by omega, below_drewN hb _⟩
      case measure => simp [intOf]

/-- the seven cells of a state in a row -/
def St7 (w : World) (p : Addr) (s : StP) : Prop := w.cell? p = some (.int .i64 s.n) ∧ w.cell? ⟨p.block, p.off + 1, none⟩ = some (.int .i64 s.up) ∧ w.cell? ⟨p.block, p.off + 2, none⟩ = some (.int .i64 s.e.a) ∧ w.cell? ⟨p.block, p.off + 3, none⟩ = some (.string ⟨s.e.S.toArray⟩) ∧
  w.cell? ⟨p.block, p.off + 4, none⟩ = some (.slice s.e.A s.e.l.length s.e.c) ∧ w.cell? ⟨p.block, p.off + 5, none⟩ = some (.string ⟨s.e.X.toArray⟩) ∧ w.cell? ⟨p.block, p.off + 6, none⟩ = some (.slice s.e.B s.e.m.length s.e.d)
theorem St7.cells {w : World} {p : Addr} {s : StP} (h : St7 w p s) : w.cell? p = some (.int .i64 s.n) ∧ w.cell? ⟨p.block, p.off + 1, none⟩ = some (.int .i64 s.up) ∧ w.cell? ⟨p.block, p.off + 2, none⟩ = some (.int .i64 s.e.a) ∧ w.cell? ⟨p.block, p.off + 3, none⟩ = some (.string ⟨s.e.S.toArray⟩) ∧
  w.cell? ⟨p.block, p.off + 4, none⟩ = some (.slice s.e.A s.e.l.length s.e.c) ∧ w.cell? ⟨p.block, p.off + 5, none⟩ = some (.string ⟨s.e.X.toArray⟩) ∧ w.cell? ⟨p.block, p.off + 6, none⟩ = some (.slice s.e.B s.e.m.length s.e.d) := h
theorem St7.same {w w' : World} {p : Addr} {s : StP} (h : St7 w p s) (hh : w'.heap[p.block]? = w.heap[p.block]?) : St7 w' p s := by
  have k : ∀ q : Addr, q.block = p.block → w'.cell? q = w.cell? q := fun q hq => World.cell?_of_block (by rw [hq]; exact hh)
  exact ⟨(k p rfl).trans h.1, (k ⟨p.block, p.off + 1, none⟩ rfl).trans h.2.1, (k ⟨p.block, p.off + 2, none⟩ rfl).trans h.2.2.1, (k ⟨p.block, p.off + 3, none⟩ rfl).trans h.2.2.2.1, (k ⟨p.block, p.off + 4, none⟩ rfl).trans h.2.2.2.2.1, (k ⟨p.block, p.off + 5, none⟩ rfl).trans h.2.2.2.2.2.1, (k ⟨p.block, p.off + 6, none⟩ rfl).trans h.2.2.2.2.2.2⟩
theorem St7.drew {w : World} {p : Addr} {s : StP} (h : St7 w p s) : St7 w.drew p s := h
theorem St7.set {w : World} {p : Addr} {s : StP} (h : St7 w p s) {k : Nat} (hk : p.block ≠ k) (i : Nat) (u : Value) : St7 (w.setCell ⟨k, i, none⟩ u) p s := h.same (heap_setCell_other w ⟨k, i, none⟩ _ u hk)
theorem St7.four {w : World} {p : Addr} {s : StP} (h : St7 w p s) {k : Nat} (hk : p.block ≠ k) (v x y z : Value) : St7 ((((w.setCell ⟨k, 0, none⟩ v).setCell ⟨k, 1, none⟩ x).setCell ⟨k, 2, none⟩ y).setCell ⟨k, 3, none⟩ z) p s := (((h.set hk 0 v).set hk 1 x).set hk 2 y).set hk 3 z
theorem St7.five {w : World} {p : Addr} {s : StP} (h : St7 w p s) {k : Nat} (hk : p.block ≠ k) (v x y z u : Value) : St7 (((((w.setCell ⟨k, 0, none⟩ v).setCell ⟨k, 1, none⟩ x).setCell ⟨k, 2, none⟩ y).setCell ⟨k, 3, none⟩ z).setCell ⟨k, 4, none⟩ u) p s := ((((h.set hk 0 v).set hk 1 x).set hk 2 y).set hk 3 z).set hk 4 u

set_option maxHeartbeats 4000000 in
theorem refHRedo_some (A : Option Addr) (c B : Nat) (L : List StP) (now next depth : Int) (hL : L.length ≤ 1000) (w : World) (hB : B ≤ w.heap.size) (h : Row w B A (flatS L)) (k : Nat) (hk : k < L.length) (hup : L[k].up = now) (hno : ∀ (i : Nat) (hi : i < L.length), k < i → L[i].up ≠ now) :
    Calls Try.prog 16 #[.agg #[.slice A L.length c, .int .i64 now, .int .i64 next, .int .i64 depth]] w fun e w' => e = .returned (.tuple #[.agg #[.slice A L.length c, .int .i64 (L[k].n), .int .i64 next, .int .i64 depth], .agg #[.int .i64 (L[k].e.a), .string ⟨(L[k].e.S).toArray⟩, .slice L[k].e.A L[k].e.l.length L[k].e.c, .string ⟨(L[k].e.X).toArray⟩, .slice L[k].e.B L[k].e.m.length L[k].e.d], .int .i64 0]) ∧ Below w.heap.size w w' := by
  have BX := Lib.hid (boxesE3 w 28 28 34 #[.slice A L.length c, .int .i64 now, .int .i64 next, .int .i64 depth] #[.slice none 0 0, .int .i64 0, .int .i64 0, .int .i64 0] #[.int .i64 0, .string ⟨#[]⟩, .slice none 0 0, .string ⟨#[]⟩, .slice none 0 0])
  have K := Lib.hid (BX.out.and ((grow_rowB h hB).step BX.out.now.2.2.2))
  have HN := Lib.hid hno
  have HU := Lib.hid hup
  clear h BX hno hup
  obtain ⟨y0, y1, y2, y3⟩ := hi_cells K.out.now.1.1
  go_enter Try.func16, Try.ntmps16
  go_wp2_with fail
  clear y0 y1 y2 y3
  generalize ((w.alloc (.cells #[.slice A L.length c, .int .i64 now, .int .i64 next, .int .i64 depth] 28)).alloc (.cells #[.slice none 0 0, .int .i64 0, .int .i64 0, .int .i64 0] 28)).alloc (.cells #[.int .i64 0, .string ⟨#[]⟩, .slice none 0 0, .string ⟨#[]⟩, .slice none 0 0] 34) = wb at *
  go_loopw [5] (fun i wr => ∃ (x : Int) (j : Nat), i = .int .i64 x ∧ x = (j : Int) - 1 ∧ j ≤ L.length ∧ k < j ∧ Below wb.heap.size wb wr) (fun i _ => (intOf i + 1).toNat)
  case atStart => exact ⟨_, L.length, rfl, rfl, Nat.le_refl _, hk, Below.refl _ _⟩
  case round =>
    obtain ⟨x, j, rfl, hx, hj, hkj, hb⟩ := hrel
    have KR := Lib.hid (K.out _ hb)
    obtain ⟨y0, y1, y2, y3⟩ := hi_cells KR.out.1.1
    rcases j with _ | j
    · omega
    · obtain rfl : x = (j : Int) := by omega
      have hjl : j < L.length := by omega
      clear hx
      obtain ⟨ad, rfl, hadB, d0, d1, d2, d3, d4, d5, d6⟩ := st_at KR.out.2 hjl
      by_cases hjk : j = k
      · subst hjk
        have hupj := HU.out
        obtain ⟨s, hs⟩ : ∃ s, L[j] = s := ⟨_, rfl⟩
        rw [hs] at d0 d1 d2 d3 d4 d5 d6 hupj
        have HS := Lib.hid hs
        clear hs
        obtain ⟨n1, up, ⟨a, S, A1, l, c1, X, B1, m, d⟩⟩ := s
        dsimp only at d0 d1 d2 d3 d4 d5 d6 hupj
        subst hupj
        have S7 : Hid (St7 wr (ad.add (j * 7)) ⟨n1, up, ⟨a, S, A1, l, c1, X, B1, m, d⟩⟩) := ⟨d0, d1, d2, d3, d4, d5, d6⟩
        go_wp2_with fail
        go_quiet (fail)
        have BQ := Lib.hid (below_drewN hb nq)
        have SQ : Hid (St7 (wr.drewN nq) (ad.add (j * 7)) ⟨n1, up, ⟨a, S, A1, l, c1, X, B1, m, d⟩⟩) := S7.out
        clear y0 y1 y2 y3 d0 d1 d2 d3 d4 d5 d6 S7 KR hb
        generalize wr.drewN nq = wq at *
        have KQ := Lib.hid (K.out _ BQ.out)
        have hblk : (ad.add (j * 7)).block ≠ w.heap.size ∧ (ad.add (j * 7)).block ≠ w.heap.size + 1 ∧ (ad.add (j * 7)).block ≠ w.heap.size + 1 + 1 := by rw [add_block]; omega
        obtain ⟨⟨y0, y1, y2, y3⟩, y4, y5, y6, y7⟩ := hi_var KQ.out.1.1
        obtain ⟨d0, d1, d2, d3, d4, d5, d6⟩ := SQ.out
        have HB : Hid (Blk (wq.setCell ⟨w.heap.size, 1, none⟩ (.int .i64 n1)) w.heap.size 28 #[.slice (some ad) L.length c, .int .i64 n1, .int .i64 next, .int .i64 depth]) := by
          have := KQ.out.1.1.set_ 1 (.int .i64 n1)
          show Blk _ _ _ _
          simpa using this
        have HG := Lib.hid (KQ.out.1.2.1.far (p := ⟨w.heap.size, 1, none⟩) (show w.heap.size + 1 ≠ w.heap.size by omega) (.int .i64 n1))
        have HE := Lib.hid (KQ.out.1.2.2.1.far (p := ⟨w.heap.size, 1, none⟩) (show w.heap.size + 1 + 1 ≠ w.heap.size by omega) (.int .i64 n1))
        have HW := Lib.hid (KQ.out.1.2.2.2.setCell (p := ⟨w.heap.size, 1, none⟩) (Nat.le_refl _) (.int .i64 n1))
        have S8 := Lib.hid (SQ.out.set hblk.1 1 (.int .i64 n1))
        go_upto_region 6 with fail
        clear y0 y1 y2 y3 y4 y5 y6 y7 d0 d1 d2 d3 d4 d5 d6 SQ KQ
        generalize wq.setCell ⟨w.heap.size, 1, none⟩ (.int .i64 n1) = wz at *
        obtain ⟨y0, y1, y2, y3⟩ := hi_cells HB.out
        obtain ⟨⟨v0, v1, v2, v3⟩, v4, v5, v6, v7⟩ := hi_var HG.out
        obtain ⟨⟨t0, t1, t2, t3, t4⟩, t5, t6, t7, t8, t9⟩ := ed_var HE.out
        have hz7 : w.heap.size ≠ w.heap.size + 1 := by omega
        have hz8 : w.heap.size ≠ w.heap.size + 1 + 1 := by omega
        have hz9 : w.heap.size + 1 + 1 ≠ w.heap.size + 1 := by omega
        have hz10 : w.heap.size + 1 ≠ w.heap.size + 1 + 1 := by omega
        have hq1 := hblk.2.1
        have hq2 := hblk.2.2
        go_region_held3 (fun w' => (w'.cell? ⟨w.heap.size, 0, none⟩ = some (.slice (some ad) L.length c) ∧ w'.cell? ⟨w.heap.size, 1, none⟩ = some (.int .i64 n1) ∧ w'.cell? ⟨w.heap.size, 2, none⟩ = some (.int .i64 next) ∧ w'.cell? ⟨w.heap.size, 3, none⟩ = some (.int .i64 depth)) ∧
            w'.cell? (ad.add (j * 7)) = some (.int .i64 n1) ∧ w'.cell? ⟨(ad.add (j * 7)).block, (ad.add (j * 7)).off + 1, none⟩ = some (.int .i64 up) ∧ w'.cell? ⟨(ad.add (j * 7)).block, (ad.add (j * 7)).off + 2, none⟩ = some (.int .i64 a) ∧ w'.cell? ⟨(ad.add (j * 7)).block, (ad.add (j * 7)).off + 3, none⟩ = some (.string ⟨S.toArray⟩) ∧
            w'.cell? ⟨(ad.add (j * 7)).block, (ad.add (j * 7)).off + 4, none⟩ = some (.slice A1 l.length c1) ∧ w'.cell? ⟨(ad.add (j * 7)).block, (ad.add (j * 7)).off + 5, none⟩ = some (.string ⟨X.toArray⟩) ∧ w'.cell? ⟨(ad.add (j * 7)).block, (ad.add (j * 7)).off + 6, none⟩ = some (.slice B1 m.length d))
          (first
            | with_reducible exact And.intro (hi_cells (four_far HB.out hz7 _ _ _ _).drew) (St7.four S8.out hq1 _ _ _ _).drew.cells
            | with_reducible exact And.intro (hi_cells (five_far HB.out hz8 _ _ _ _ _).drew) (St7.five S8.out hq2 _ _ _ _ _).drew.cells
            | with_reducible exact And.intro (hi_cells (five_far (four_far HB.out hz7 _ _ _ _) hz8 _ _ _ _ _).drew) (St7.five (St7.four S8.out hq1 _ _ _ _) hq2 _ _ _ _ _).drew.cells
            | with_reducible exact And.intro (hi_cells (four_far (five_far HB.out hz8 _ _ _ _ _) hz7 _ _ _ _).drew) (St7.four (St7.five S8.out hq2 _ _ _ _ _) hq1 _ _ _ _).drew.cells
            | with_reducible exact And.intro (hi_cells HB.out.drew) S8.out.drew.cells
            | exact And.intro (hi_cells HB.out) S8.out)
          (fail)
        all_goals go_wp2
        all_goals
          have H1 := (five_far (hi_four HG.out (.slice (some ad) L.length c) (.int .i64 n1) (.int .i64 next) (.int .i64 depth)) hz10 (.int .i64 a) (.string ⟨S.toArray⟩) (.slice A1 l.length c1) (.string ⟨X.toArray⟩) (.slice B1 m.length d)).drew
          have H2 := (blk_five (four_far HE.out hz9 (.slice (some ad) L.length c) (.int .i64 n1) (.int .i64 next) (.int .i64 depth)) (.int .i64 a) (.string ⟨S.toArray⟩) (.slice A1 l.length c1) (.string ⟨X.toArray⟩) (.slice B1 m.length d)).drew
          refine ret_hist_edit rfl _ _ (w.heap.size + 1) (w.heap.size + 1 + 1) _ _ _ _ _ _ _ _ _ rfl rfl H1 H2 rfl ?_
          exact ⟨by rw [HS.out]; rfl, (below_five (below_four HW.out (by omega) _ _ _ _) (by omega) _ _ _ _ _).drew⟩
      · have hne := HN.out j hjl (by omega)
        generalize L[j] = s at *
        obtain ⟨n1, up, e⟩ := s
        dsimp only at d0 d1 hne
        have ht : (up == now) = false := by rw [beq_eq_false_iff_ne]; exact hne
        clear hne
        go_wp2_with fail
        go_quiet (fail)
        go_wp2
        go_roundw
        case rel => exact ⟨(j : Int) - 1, j, rfl, rfl, by omega, by omega, below_drewN hb _⟩
        case measure => simp [intOf]
end Go.Proofs.Ytfeaffabminpfaa

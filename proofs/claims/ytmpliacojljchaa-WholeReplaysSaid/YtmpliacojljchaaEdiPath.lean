/-
  Edits one behind the other, as a list that grows: layer 7.
-/
import Derived.Test.YtmpliacojljchaaEdiAlive
import Derived.Test.YtmpliacojljchaaEdiOpen
import Derived.Test.YtmpliacojljchaaTextSet
namespace Go.Proofs.Ytmpliacojljchaa
open Go.RowKit

/-- an edit as it lies in a list -/
structure DoneP where
  a : Int
  S : List UInt8
  A : Option Addr
  l : List RunP
  c : Nat
  X : List UInt8
  B : Option Addr
  m : List RunP
  d : Nat
def DoneP.cells (r : DoneP) : List Value := [.int .i64 r.a, .string ⟨r.S.toArray⟩, .slice r.A r.l.length r.c, .string ⟨r.X.toArray⟩, .slice r.B r.m.length r.d]
def flatD (ds : List DoneP) : List Value := ds.flatMap DoneP.cells
theorem flatD_snoc (ds : List DoneP) (e : DoneP) : flatD (ds ++ [e]) = flatD ds ++ e.cells := by simp [flatD]
theorem flatD_len (ds : List DoneP) : (flatD ds).length = ds.length * 5 := by
  induction ds with
  | nil => rfl
  | cons r l ih => simp only [flatD, List.flatMap_cons, List.length_append, List.length_cons] at *; rw [ih]; simp [DoneP.cells]; omega
theorem flatD_get (ds : List DoneP) (k : Nat) (hk : k < ds.length) (j : Nat) (hj : j < 5) : (flatD ds)[k * 5 + j]? = ds[k].cells[j]? := by
  induction ds generalizing k with
  | nil => simp at hk
  | cons r l ih =>
    cases k with
    | zero =>
      simp only [flatD, List.flatMap_cons, Nat.zero_mul, Nat.zero_add, List.getElem_cons_zero]
      rw [List.getElem?_append_left (by simp [DoneP.cells]; omega)]
    | succ k =>
      have := ih k (by simpa using hk)
      simp only [flatD, List.flatMap_cons, List.getElem_cons_succ] at *
      rw [List.getElem?_append_right (by simp [DoneP.cells]; omega), show (k + 1) * 5 + j - r.cells.length = k * 5 + j by simp [DoneP.cells]; omega]
      exact this
theorem done_field (ad : Addr) (k j : Nat) (hj : 0 < j) : ad.add (k * 5 + j) = ⟨(ad.add (k * 5)).block, (ad.add (k * 5)).off + j, none⟩ := by
  unfold Addr.add
  by_cases hn : k = 0
  · subst hn; simp; omega
  · have h1 : k * 5 ≠ 0 := by omega
    simp [h1]; omega
theorem done_at {w : World} {B : Nat} {A : Option Addr} {ds : List DoneP} (h : Row w B A (flatD ds)) {k : Nat} (hk : k < ds.length) :
    ∃ ad, A = some ad ∧ ad.block < B ∧ w.cell? (ad.add (k * 5)) = some (.int .i64 ds[k].a) ∧ w.cell? ⟨(ad.add (k * 5)).block, (ad.add (k * 5)).off + 1, none⟩ = some (.string ⟨ds[k].S.toArray⟩) ∧
      w.cell? ⟨(ad.add (k * 5)).block, (ad.add (k * 5)).off + 2, none⟩ = some (.slice ds[k].A ds[k].l.length ds[k].c) ∧ w.cell? ⟨(ad.add (k * 5)).block, (ad.add (k * 5)).off + 3, none⟩ = some (.string ⟨ds[k].X.toArray⟩) ∧
      w.cell? ⟨(ad.add (k * 5)).block, (ad.add (k * 5)).off + 4, none⟩ = some (.slice ds[k].B ds[k].m.length ds[k].d) := by
  rcases h with h | ⟨ad, rfl, hb, hc⟩
  · have := congrArg List.length h
    rw [flatD_len] at this
    simp at this; omega
  · have g := fun j hj => flatD_get ds k hk j hj
    have c0 := hc (k * 5) _ (by have := g 0 (by omega); rw [Nat.add_zero] at this; rw [this]; rfl)
    have c1 := hc (k * 5 + 1) _ (by rw [g 1 (by omega)]; rfl)
    have c2 := hc (k * 5 + 2) _ (by rw [g 2 (by omega)]; rfl)
    have c3 := hc (k * 5 + 3) _ (by rw [g 3 (by omega)]; rfl)
    have c4 := hc (k * 5 + 4) _ (by rw [g 4 (by omega)]; rfl)
    rw [done_field _ _ _ (by omega)] at c1 c2 c3 c4
    exact ⟨ad, rfl, hb, c0, c1, c2, c3, c4⟩
theorem elt_edit : Elt Try.prog 59 29 (.agg #[.int .i64 0, .string ⟨#[]⟩, .slice none 0 0, .string ⟨#[]⟩, .slice none 0 0]) 5 88 := ⟨Try.underlying59, by kernel_rfl, rfl, by decide⟩

/-- edits made one behind the other -/
inductive Path (S : List UInt8) (l : List RunP) : List DoneP → List UInt8 → List RunP → Prop
  | nil : Path S l [] S l
  | snoc {ds : List DoneP} {V : List UInt8} {r : List RunP} {e : DoneP} {V2 : List UInt8} {r2 : List RunP} : Path S l ds V r → applyE V r e.a e.S e.l e.X e.m = ((V2, r2), 0) → Path S l (ds ++ [e]) V2 r2
theorem path_last {S : List UInt8} {l : List RunP} {L : List DoneP} {V2 : List UInt8} {r2 : List RunP} (h : Path S l L V2 r2) : ∀ ds e, L = ds ++ [e] → ∃ V r, Path S l ds V r ∧ applyE V r e.a e.S e.l e.X e.m = ((V2, r2), 0) := by
  cases h with
  | nil => intro ds e h; simp at h
  | snoc hp ha =>
    intro ds e h
    obtain ⟨h1, h2⟩ := List.append_inj' h rfl
    injection h2 with h2
    subst h1 h2
    exact ⟨_, _, hp, ha⟩
theorem path_empty {S : List UInt8} {l : List RunP} {L : List DoneP} {V : List UInt8} {r : List RunP} (h : Path S l L V r) (hL : L = []) : V = S ∧ r = l := by
  cases h with
  | nil => exact ⟨rfl, rfl⟩
  | snoc hp ha => simp at hL
theorem path_back {S : List UInt8} {l : List RunP} {ds : List DoneP} {V : List UInt8} {r : List RunP} {j : Nat} (h : Path S l (ds.take (j + 1)) V r) (hj : j < ds.length) : ∃ V0 r0, Path S l (ds.take j) V0 r0 ∧ applyE V r ds[j].a ds[j].X ds[j].m ds[j].S ds[j].l = ((V0, r0), 0) := by
  obtain ⟨V0, r0, hp, ha⟩ := path_last h (ds.take j) ds[j] (List.take_succ_eq_append_getElem hj)
  exact ⟨V0, r0, hp, back_ok ha⟩

/-- cells that lie neither in block g nor in v's own one -/
def RowQ (w : World) (g : Nat) (v : Value) (A : Option Addr) (xs : List Value) : Prop := xs = [] ∨ ∃ ad, A = some ad ∧ ad.block ≠ g ∧ v.ownBlock ≠ some ad.block ∧ ad.block < w.heap.size ∧ ∀ j u, xs[j]? = some u → w.cell? (ad.add j) = some u
structure TxQ (w : World) (g : Nat) (v : Value) (A : Option Addr) (S : List UInt8) (l : List RunP) : Prop where
  hS : S.length ≤ maxLen
  hf : Fits l
  hl : l.length ≤ maxLen
  row : RowQ w g v A (flatR l)
section
variable {w w' wx : World} {g : Nat} {v v' : Value} {A : Option Addr} {S : List UInt8} {l : List RunP}
theorem TxQ.txu (h : TxQ w g v A S l) : Txu w A S l := by
  refine ⟨h.hS, h.hf, h.hl, ?_⟩
  rcases h.row with h | ⟨ad, e, _, _, hb, hc⟩
  · exact .inl h
  · exact .inr ⟨ad, e, hb, hc⟩
theorem TxQ.step (h : TxQ w g v A S l) (hb : Below w.heap.size w w') : TxQ w' g v A S l := by
  refine ⟨h.hS, h.hf, h.hl, ?_⟩
  rcases h.row with h | ⟨ad, e, h1, h2, hl, hc⟩
  · exact .inl h
  · exact .inr ⟨ad, e, h1, h2, Nat.lt_of_lt_of_le hl hb.size, fun j u hj => (hb.cell (p := ad.add j) (by rw [add_block]; exact hl)).trans (hc j u hj)⟩
theorem grow_txq (h : TxQ w g v A S l) : Grow w (fun w' => TxQ w' g v A S l) := fun _ hb => h.step hb
theorem TxQ.set (h : TxQ w g v A S l) (i : Nat) (u : Value) : TxQ (w.setCell ⟨g, i, none⟩ u) g v A S l := by
  refine ⟨h.hS, h.hf, h.hl, ?_⟩
  rcases h.row with h | ⟨ad, e, h1, h2, hl, hc⟩
  · exact .inl h
  · refine .inr ⟨ad, e, h1, h2, by simpa using hl, fun j x hj => ?_⟩
    rw [World.cell?_of_block (heap_setCell_other _ ⟨g, i, none⟩ _ _ (by rw [add_block]; exact h1))]
    exact hc j x hj
theorem TxQ.app (h : TxQ w g v A S l) (hg : w.grownBy w' v.ownBlock) (hn : NewOr w v v') : TxQ w' g v' A S l := by
  refine ⟨h.hS, h.hf, h.hl, ?_⟩
  rcases h.row with h | ⟨ad, e, h1, h2, hl, hc⟩
  · exact .inl h
  · refine .inr ⟨ad, e, h1, fun he => ?_, Nat.lt_of_lt_of_le hl hg.size, fun j x hj => ?_⟩
    · rcases hn _ he with h3 | h3
      · exact h2 h3
      · omega
    · rw [← hc j x hj]
      exact World.cell?_of_block (by rw [add_block]; exact hg.block _ hl (fun e => h2 e.symm))
theorem TxQ.new {b : Nat} (hS : S.length ≤ maxLen) (hf : Fits l) (hl : l.length ≤ maxLen) (r : RowG w b A (flatR l)) (hg : g < b) (hv : ∀ k, v.ownBlock = some k → k < b) : TxQ w g v A S l := by
  refine ⟨hS, hf, hl, ?_⟩
  rcases r with h | ⟨ad, e, hb, hl, hc⟩
  · exact .inl h
  · exact .inr ⟨ad, e, by omega, fun he => by have := hv _ he; omega, hl, hc⟩
theorem TxQ.old {B : Nat} (h : Txt w B A S l) (hB : B ≤ w.heap.size) (hg : B ≤ g) (hv : v.ownBlock = none) : TxQ w g v A S l := by
  refine ⟨h.hS, h.hf, h.hl, ?_⟩
  rcases h.row with h | ⟨ad, e, hb, hc⟩
  · exact .inl h
  · exact .inr ⟨ad, e, by omega, by rw [hv]; simp, by omega, hc⟩
end

theorem rowG_setV {wx : World} {b g : Nat} {A : Option Addr} {l : List RunP} {s : ByteArray} {a : Option Addr} {n c : Nat} (h : RowG wx b A (flatR l)) (hg : Blk wx g 24 #[.string s, .slice a n c]) (x y : Value) :
    RowG ((wx.setCell ⟨g, 0, none⟩ x).setCell ⟨g, 1, none⟩ y) b A (flatR l) := by
  rcases h with h | ⟨ad, rfl, hb, hl, hc⟩
  · exact .inl h
  · have h0 : Row wx wx.heap.size (some ad) (flatR l) := .inr ⟨ad, rfl, hl, hc⟩
    rcases row_setV h0 hg x y with h1 | ⟨ad', e, hb', hc'⟩
    · exact .inl h1
    · injection e with e
      subst e
      exact .inr ⟨ad, rfl, hb, by simpa using hl, hc'⟩
/-- an edit made, among other calls: its runs are new -/
theorem apply_new {wb : World} {a : Int} {S X : List UInt8} {l m : List RunP} {V U : List UInt8} {r q : List RunP} {A4 : Option Addr} {c4 : Nat} {n : Nat} (h : applyE V r a X m U q = ((S, l), n)) (hT : ∀ w', Below wb.heap.size wb w' → Txu w' A4 V r) :
    ∀ w', Below wb.heap.size wb w' → ∀ B k B2 k2, Txu w' B X m → Txu w' B2 U q → Calls Try.prog 20 #[.agg #[.string ⟨V.toArray⟩, .slice A4 r.length c4], .agg #[.int .i64 a, .string ⟨X.toArray⟩, .slice B m.length k, .string ⟨U.toArray⟩, .slice B2 q.length k2]] w' fun e w'' => ∃ A' c', e = .returned (.tuple #[.agg #[.string ⟨S.toArray⟩, .slice A' l.length c'], .int .i64 (n : Nat)]) ∧ Hid (RowG w'' wb.heap.size A' (flatR l)) ∧ Below wb.heap.size wb w'' ∧ Below w'.heap.size w' w'' := by
  intro w' hb B k B2 k2 h1 h2
  refine (ediApply_any A4 B B2 c4 k k2 V r a X m U q w' (hT w' hb) h1 h2).mono ?_
  rw [h]
  rintro e w'' ⟨A', c', rfl, own, bb⟩
  exact ⟨A', c', rfl, (rowG_own own).less hb.size, hb.trans (bb.mono hb.size), bb⟩

/-- what stays known while edits are made: the list of those that were made, the text as it is now -/
structure RepK (w0 : World) (g8 b0 : Nat) (S : List UInt8) (l : List RunP) (wr : World) (v : Value) (ds es : List DoneP) (V : List UInt8) (r : List RunP) (A8 : Option Addr) (c8 : Nat) : Prop where
  own : wr.ownsRow b0 29 5 v ds.length (flatD ds)
  now : Blk wr g8 24 #[.string ⟨V.toArray⟩, .slice A8 r.length c8]
  txt : TxQ wr g8 v A8 V r
  done : ∀ e ∈ ds, (TxQ wr g8 v e.A e.S e.l ∧ TxQ wr g8 v e.B e.X e.m) ∧ e.l.length ≤ 1000000 ∧ e.m.length ≤ 1000000
  path : Path S l es V r
  bl : Below g8 w0 wr
section
variable {w0 wr w' : World} {g8 b0 : Nat} {S : List UInt8} {l : List RunP} {v : Value} {ds es : List DoneP} {V : List UInt8} {r : List RunP} {A8 : Option Addr} {c8 : Nat}
theorem RepK.step (h : RepK w0 g8 b0 S l wr v ds es V r A8 c8) (hb : Below wr.heap.size wr w') : RepK w0 g8 b0 S l w' v ds es V r A8 c8 :=
  ⟨own_keep h.own hb (Nat.le_refl _), h.now.below hb h.now.lt, h.txt.step hb, fun e he => ⟨⟨(h.done e he).1.1.step hb, (h.done e he).1.2.step hb⟩, (h.done e he).2⟩, h.path, h.bl.trans (hb.mono (Nat.le_of_lt h.now.lt))⟩
theorem grow_rep (h : RepK w0 g8 b0 S l wr v ds es V r A8 c8) : Grow wr (fun w' => RepK w0 g8 b0 S l w' v ds es V r A8 c8) := fun _ hb => h.step hb
theorem RepK.own_lt (h : RepK w0 g8 b0 S l wr v ds es V r A8 c8) : ∀ k, v.ownBlock = some k → k < wr.heap.size := fun k hk => (h.own.lt k hk).2
/-- the text is another one now, and one edit more was made -/
theorem RepK.set (h : RepK w0 g8 b0 S l wr v ds es V r A8 c8) (hg : g8 < b0) {V2 : List UInt8} {r2 : List RunP} {A9 : Option Addr} {c9 : Nat} (ht : TxQ wr g8 v A9 V2 r2) :
    Blk ((wr.setCell ⟨g8, 0, none⟩ (.string ⟨V2.toArray⟩)).setCell ⟨g8, 1, none⟩ (.slice A9 r2.length c9)) g8 24 #[.string ⟨V2.toArray⟩, .slice A9 r2.length c9] ∧
    TxQ ((wr.setCell ⟨g8, 0, none⟩ (.string ⟨V2.toArray⟩)).setCell ⟨g8, 1, none⟩ (.slice A9 r2.length c9)) g8 v A9 V2 r2 ∧
    ((wr.setCell ⟨g8, 0, none⟩ (.string ⟨V2.toArray⟩)).setCell ⟨g8, 1, none⟩ (.slice A9 r2.length c9)).ownsRow b0 29 5 v ds.length (flatD ds) ∧
    (∀ e ∈ ds, (TxQ ((wr.setCell ⟨g8, 0, none⟩ (.string ⟨V2.toArray⟩)).setCell ⟨g8, 1, none⟩ (.slice A9 r2.length c9)) g8 v e.A e.S e.l ∧ TxQ ((wr.setCell ⟨g8, 0, none⟩ (.string ⟨V2.toArray⟩)).setCell ⟨g8, 1, none⟩ (.slice A9 r2.length c9)) g8 v e.B e.X e.m) ∧ e.l.length ≤ 1000000 ∧ e.m.length ≤ 1000000) ∧
    Below g8 w0 ((wr.setCell ⟨g8, 0, none⟩ (.string ⟨V2.toArray⟩)).setCell ⟨g8, 1, none⟩ (.slice A9 r2.length c9)) :=
  ⟨blk_two h.now _ _, (ht.set 0 _).set 1 _, own_away (own_away h.own (p := ⟨g8, 0, none⟩) hg _) (p := ⟨g8, 1, none⟩) hg _, fun e he => ⟨⟨((h.done e he).1.1.set 0 _).set 1 _, ((h.done e he).1.2.set 0 _).set 1 _⟩, (h.done e he).2⟩, (h.bl.setCell (Nat.le_refl _) _).setCell (Nat.le_refl _) _⟩
theorem done_cell (e : DoneP) : ∀ u ∈ e.cells, u.oneCell' = true := by
  intro u hu
  unfold DoneP.cells at hu
  simp at hu
  rcases hu with rfl | rfl | rfl | rfl | rfl <;> rfl
/-- one edit more in the list -/
theorem push_done (e : DoneP) (hown : wr.ownsRow b0 29 5 v ds.length (flatD ds)) (hn : ds.length ≤ 1000) (hb0 : b0 ≤ wr.heap.size) :
    ∃ v' w', (∀ ty, (Builtin.append_ #[59, 59] ty #[v, .slice (some ⟨wr.heap.size, 0, none⟩) 1 1]).run Try.prog (wr.alloc (.cells e.cells.toArray 29)) = .ok v' w') ∧ w'.ownsRow b0 29 5 v' (ds ++ [e]).length (flatD (ds ++ [e])) ∧
      (wr.alloc (.cells e.cells.toArray 29)).grownBy w' v.ownBlock ∧ NewOr (wr.alloc (.cells e.cells.toArray 29)) v v' := by
  obtain ⟨i, hi, hz, h1, h2⟩ := info_parts elt_edit.hi
  have ho := hown.alloc (.cells e.cells.toArray 29)
  have hrow := row_newL wr 29 e.cells
  have hs : Src Try.prog 5 59 (.slice (some ⟨wr.heap.size, 0, none⟩) 1 1) 1 e.cells (wr.alloc (.cells e.cells.toArray 29)) := Src.ofRow elt_edit.ht rfl (by decide) hrow (done_cell e)
  obtain ⟨v', w', he, ho', hg, hnn⟩ := run_append_any (P := Try.prog) b0 59 59 59 29 i _ 5 88 elt_edit.ht hi hz h1 h2 elt_edit.hz v ds.length (flatD ds) ho _ 1 e.cells hs (by unfold maxLen; omega) (by omega) (by simp; omega)
  refine ⟨v', w', fun ty => he, ?_, hg, hnn⟩
  rw [flatD_snoc, List.length_append]
  exact ho'
end
theorem OkT.txt0 {r : (List UInt8 × List RunP) × Nat} (h : OkT r) : r.1.1.length ≤ maxLen ∧ Fits r.1.2 ∧ r.1.2.length ≤ maxLen := ⟨by have := h.1; unfold maxLen; omega, h.2.1, h.2.2⟩
theorem follow_zero {a : Int} {S X : List UInt8} {l m : List RunP} (hg : goodE a S l X m = true) : followE a S l X m 0 = 0 := by
  have := ((goodE_iff a S X l m).1 hg).2.2.1
  unfold followE; rw [if_neg]; intro h; omega
/-- where the end of a text goes -/
theorem follow_end {S : List UInt8} {l : List RunP} {a : Int} {U : List UInt8} {q : List RunP} {X : List UInt8} {m : List RunP} {V : List UInt8} {r : List RunP} (h : applyE S l a U q X m = ((V, r), 0)) :
    goodE a U q X m = true ∧ S.length ≤ 4096 ∧ V.length ≤ 4096 ∧ (followE a U q X m (S.length : Nat) = (V.length : Nat) ∨ a = (S.length : Nat)) := by
  have h1 := applyE_made (S := S) (l := l) (a := a) (U := U) (q := q) (X := X) (m := m) (by rw [h])
  rw [h] at h1
  obtain ⟨hg, hB, P, Q, p, s, hS, hb, hP, hp, hs, h4, h5, hV, hr⟩ := h1
  obtain ⟨gU, gX, ha0, ha1⟩ := (goodE_iff a U X q m).1 hg
  have eS := congrArg List.length hS
  have eV := congrArg List.length hV
  simp only [List.length_append] at eS eV
  refine ⟨hg, h4, by omega, ?_⟩
  by_cases ha : a = (S.length : Nat)
  · exact .inr ha
  · left
    unfold followE
    rw [if_pos ⟨hg, by omega, by omega, by omega⟩, if_pos (by omega)]
    omega
end Go.Proofs.Ytmpliacojljchaa

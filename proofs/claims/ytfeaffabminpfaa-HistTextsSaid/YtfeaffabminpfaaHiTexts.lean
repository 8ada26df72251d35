/-
  Texts at the states of a history, as plain values: layer 8.
-/
import Derived.Test.YtfeaffabminpfaaHiAway
namespace Go.Proofs.Ytfeaffabminpfaa
open Go.RowKit

/-- the numbers on the way from the present state up -/
inductive Anc (G : List StP) (now : Int) : Int → Prop
  | here : Anc G now now
  | up {s : StP} : s ∈ G → Anc G now s.n → 0 ≤ s.up → Anc G now s.up
/-- the states on the way are the youngest children -/
def YoungS (G : List StP) (now : Int) : Prop := ∀ s ∈ G, Anc G now s.n → 0 ≤ s.up → ∀ t ∈ G, t.up = s.up → t.n ≤ s.n
/-- each state's text is what its edit makes of its parent's -/
def EdgeS (T : Int → List UInt8 × List RunP) (G : List StP) : Prop := ∀ s ∈ G, 0 ≤ s.up → applyE (T s.up).1 (T s.up).2 s.e.a s.e.S s.e.l s.e.X s.e.m = (T s.n, 0)
/-- states are forgotten -/
def SubS (G' G : List StP) : Prop := ∀ s ∈ G', s.up < 0 ∨ s ∈ G
section
variable {G G' : List StP} {now last dep : Int} {T T' : Int → List UInt8 × List RunP}
theorem anc_sub (h : SubS G' G) {q : Int} (ha : Anc G' now q) : Anc G now q := by
  induction ha with
  | here => exact .here
  | up hs _ hu ih =>
    rcases h _ hs with h | h
    · omega
    · exact .up h ih hu
theorem young_sub (h : SubS G' G) (hy : YoungS G now) : YoungS G' now := fun s hs ha hu t ht e => by
  rcases h s hs with h1 | h1
  · omega
  · rcases h t ht with h2 | h2
    · omega
    · exact hy s h1 (anc_sub h ha) hu t h2 e
theorem edge_sub (h : SubS G' G) (he : EdgeS T G) : EdgeS T G' := fun s hs hu => by
  rcases h s hs with h1 | h1
  · omega
  · exact he s h1 hu
theorem sub_add {L : List StP} (ha : AddTo L dep now G') : SubS G' L := by
  rcases ha with ⟨_, rfl⟩ | ⟨_, r0, p1, rest, _, rfl⟩
  · exact fun s hs => Or.inr hs
  · intro s hs
    rw [← keep_below] at hs
    obtain ⟨x, hx, rfl⟩ := List.mem_map.1 hs
    unfold zfix
    split
    · exact Or.inl (by show (-1 : Int) < 0; decide)
    · exact Or.inr ((keep_sub L p1).subset hx)
theorem anc_le (h : InvS G now last dep) {q : Int} (ha : Anc G now q) : q ≤ now := by
  induction ha with
  | here => exact Int.le_refl _
  | up hs _ hu ih => rcases h.kid hs with e | ⟨_, e, _⟩ <;> omega
/-- Undo -/
theorem young_undo {s : StP} (hs : s ∈ G) (hu : 0 ≤ s.up) (hy : YoungS G s.n) : YoungS G s.up := by
  have key : ∀ q, Anc G s.up q → Anc G s.n q := fun q ha => by
    induction ha with
    | here => exact .up hs .here hu
    | up h1 _ h2 ih => exact .up h1 ih h2
  exact fun t ht ha => hy t ht (key _ ha)
/-- Redo -/
theorem young_redo (h : InvS G now last dep) {c : StP} (hc : c ∈ G) (hu : c.up = now) (hm : ∀ t ∈ G, t.up = now → t.n ≤ c.n) (hy : YoungS G now) : YoungS G c.n := by
  have key : ∀ q, Anc G c.n q → q = c.n ∨ Anc G now q := fun q ha => by
    induction ha with
    | here => exact Or.inl rfl
    | up h1 _ h2 ih =>
      rcases ih with e | ih
      · rw [inj_num h.hup h1 hc e, hu]; exact Or.inr .here
      · exact Or.inr (.up h1 ih h2)
  intro s hs ha h0 t ht e
  rcases key _ ha with e1 | ha
  · obtain rfl := inj_num h.hup hs hc e1
    exact hm t ht (e.trans hu)
  · exact hy s hs ha h0 t ht e
/-- Add -/
theorem young_add (h : InvS G now last dep) {x : StP} (hx : x.n = last + 1) (hu : x.up = now) (hy : YoungS G now) : YoungS (G ++ [x]) (last + 1) := by
  have hnow := h.nowLow
  have key : ∀ q, Anc (G ++ [x]) (last + 1) q → q = last + 1 ∨ Anc G now q := fun q ha => by
    induction ha with
    | here => exact Or.inl rfl
    | @up s h1 _ h2 ih =>
      rcases List.mem_append.1 h1 with h1 | h1
      · rcases ih with e | ih
        · have := (h.hlow s h1).2; omega
        · exact Or.inr (.up h1 ih h2)
      · rw [List.mem_singleton.1 h1, hu]; exact Or.inr .here
  intro s hs ha h0 t ht e
  rcases List.mem_append.1 ht with ht | ht
  · rcases List.mem_append.1 hs with hs | hs
    · rcases key _ ha with e1 | ha
      · have := (h.hlow s hs).2; omega
      · exact hy s hs ha h0 t ht e
    · rw [List.mem_singleton.1 hs, hx]; have := (h.hlow t ht).2; omega
  · rw [List.mem_singleton.1 ht] at e ⊢
    rcases List.mem_append.1 hs with hs | hs
    · rcases key _ ha with e1 | ha
      · have := (h.hlow s hs).2; omega
      · have h1 := anc_le h ha
        rcases h.kid hs with e2 | ⟨_, e2, _⟩ <;> omega
    · rw [List.mem_singleton.1 hs]; exact Int.le_refl _
/-- back and on again is where one was -/
theorem young_back {s c : StP} (h : InvS G s.n last dep) (hs : s ∈ G) (hu : 0 ≤ s.up) (hc : c ∈ G) (hcu : c.up = s.up) (hm : ∀ t ∈ G, t.up = s.up → t.n ≤ c.n) (hy : YoungS G s.n) : c = s := by
  have h1 := hy s hs .here hu c hc hcu
  have h2 := hm s hs rfl
  exact inj_num h.hup hc hs (by omega)
theorem young_first : YoungS [firstS] 0 := fun s hs _ hu => by
  rw [List.mem_singleton.1 hs] at hu
  exact absurd hu (by decide)
theorem edge_first : EdgeS T [firstS] := fun s hs hu => by
  rw [List.mem_singleton.1 hs] at hu
  exact absurd hu (by decide)
theorem edge_more (h : InvS G now last dep) (hT : ∀ q, 0 ≤ q → q ≤ last → T' q = T q) (he : EdgeS T G) : EdgeS T' G := fun s hs hu => by
  have h1 := h.hlow s hs
  have h2 : s.up ≤ last := by rcases h.kid hs with e | ⟨_, e, _⟩ <;> omega
  rw [hT s.up hu h2, hT s.n h1.1 h1.2]
  exact he s hs hu
theorem edge_add {x : StP} (he : EdgeS T G) (hx : applyE (T x.up).1 (T x.up).2 x.e.a x.e.S x.e.l x.e.X x.e.m = (T x.n, 0)) : EdgeS T (G ++ [x]) := fun s hs hu => by
  rcases List.mem_append.1 hs with hs | hs
  · exact he s hs hu
  · rw [List.mem_singleton.1 hs]; exact hx
end
/-- a text as it lies in a list -/
structure TxV where
  S : List UInt8
  A : Option Addr
  l : List RunP
  c : Nat
def TxV.cells (t : TxV) : List Value := [.string ⟨t.S.toArray⟩, .slice t.A t.l.length t.c]
def flatV (L : List TxV) : List Value := L.flatMap TxV.cells
theorem flatV_push (L : List TxV) (t : TxV) : flatV (L ++ [t]) = flatV L ++ [.string ⟨t.S.toArray⟩, .slice t.A t.l.length t.c] := by simp [flatV, TxV.cells]
theorem flatV_at (L : List TxV) (k : Nat) (hk : k < L.length) : (flatV L)[k * 2]? = some (.string ⟨L[k].S.toArray⟩) ∧ (flatV L)[k * 2 + 1]? = some (.slice L[k].A L[k].l.length L[k].c) := by
  have h0 := cellsG_get TxV.cells 2 (fun _ => rfl) L k hk 0 (by decide)
  have h1 := cellsG_get TxV.cells 2 (fun _ => rfl) L k hk 1 (by decide)
  exact ⟨h0, h1⟩
def textAt (L : List TxV) (q : Int) : List UInt8 × List RunP := match L[q.toNat]? with | some t => (t.S, t.l) | none => ([], [])
theorem textAt_lt {L : List TxV} {q : Int} (h0 : 0 ≤ q) (h : q < L.length) : textAt L q = ((L[q.toNat]'(by omega)).S, (L[q.toNat]'(by omega)).l) := by
  unfold textAt
  rw [List.getElem?_eq_getElem (by omega)]
theorem textAt_old {L : List TxV} {t : TxV} {q : Int} (h0 : 0 ≤ q) (h : q < L.length) : textAt (L ++ [t]) q = textAt L q := by
  unfold textAt
  rw [List.getElem?_append_left (by omega)]
theorem textAt_new {L : List TxV} {t : TxV} {q : Int} (h : q = L.length) : textAt (L ++ [t]) q = (t.S, t.l) := by
  unfold textAt
  rw [h, Int.toNat_natCast, List.getElem?_append_right (Nat.le_refl _), Nat.sub_self]
  rfl
end Go.Proofs.Ytfeaffabminpfaa

/-
  Both histories answer alike: layer 8.
-/
import Derived.Test.YtfeaffabminpfaaHiAlike
import Derived.Test.YtfeaffabminpfaaHiDoes
namespace Go.Proofs.Ytfeaffabminpfaa
open Go.RowKit

/-- the history's two blocks, and the document's variable -/
def PA (p b g k : Nat) : Prop := PB p b k ∨ k = g
theorem RowO.notIn {w : World} {P : Nat → Prop} {A : Option Addr} {l : List RunP} {g T : Nat} {cs : Array Value} (h : RowO w P A (flatR l)) (hg : Blk w g T cs) (hcs : ∀ (i : Nat) (n : Int), cs[i]? ≠ some (.int .u64 n)) : RowO w (fun k => P k ∨ k = g) A (flatR l) := by
  rcases h with h | ⟨ad, e, hb, hn, hcell⟩
  · exact .inl h
  · rcases rowN_ty (.inr ⟨ad, e, hb, hcell⟩ : Row w w.heap.size A (flatR l)) (Nat.le_refl _) hg hcs with h | ⟨ad', e', hne, _, _⟩
    · exact .inl h
    · rw [e] at e'
      injection e' with e'
      subst e'
      exact .inr ⟨ad, e, hb, fun h => h.elim hn hne, hcell⟩
theorem TxO.notIn {w : World} {P : Nat → Prop} {A : Option Addr} {S : List UInt8} {l : List RunP} {g T : Nat} {cs : Array Value} (h : TxO w P A S l) (hg : Blk w g T cs) (hcs : ∀ (i : Nat) (n : Int), cs[i]? ≠ some (.int .u64 n)) : TxO w (fun k => P k ∨ k = g) A S l := ⟨h.hS, h.hf, h.hl, h.row.notIn hg hcs⟩
theorem RowO.of_own {w : World} {P : Nat → Prop} {base e size n c : Nat} {A : Option Addr} {xs : List Value} (h : w.ownsRow base e size (.slice A n c) n xs) (hP : ∀ k, base ≤ k → k < w.heap.size → ¬ P k) : RowO w P A xs := by
  rcases rowG_own h with h | ⟨ad, e, hb, hl, hc⟩
  · exact .inl h
  · exact .inr ⟨ad, e, hl, hP _ hb hl, hc⟩
/-- four stores into a variable -/
theorem Tch.four {P : Nat → Prop} {w wb : World} {k : Nat} (h : Tch P w wb) (hk : P k) (v x y z : Value) : Tch P w ((((wb.setCell ⟨k, 0, none⟩ v).setCell ⟨k, 1, none⟩ x).setCell ⟨k, 2, none⟩ y).setCell ⟨k, 3, none⟩ z) := by
  have hb : ∀ i, (⟨k, i, none⟩ : Addr).block < w.heap.size → P (⟨k, i, none⟩ : Addr).block := fun i _ => hk
  exact (((h.setCell (hb 0) _).setCell (hb 1) _).setCell (hb 2) _).setCell (hb 3) _
/-- a history, and the document's beside it -/
structure ActsK (w wr : World) (p b g : Nat) (G L : List StP) (n now nowL last : Int) (A : Option Addr) (c : Nat) : Prop where
  hx : Hx wr p b G n now last
  blk : Blk wr g 28 #[.slice A L.length c, .int .i64 nowL, .int .i64 (last + 1), .int .i64 n]
  ref : RefH wr (PA p b g) A L
  al : Alike G L
  bel : Below w.heap.size w wr
  low : w.heap.size ≤ p ∧ w.heap.size ≤ b ∧ w.heap.size ≤ g
  ne : g ≠ p ∧ g ≠ b
section
variable {w wr w' : World} {p b g : Nat} {G L : List StP} {n now nowL last : Int} {A : Option Addr} {c : Nat}
theorem ActsK.fresh (h : ActsK w wr p b g G L n now nowL last A c) (hb : Below wr.heap.size wr w') : ActsK w w' p b g G L n now nowL last A c :=
  ⟨h.hx.fresh hb, h.blk.below hb h.blk.lt, h.ref.fresh hb, h.al, h.bel.trans (hb.mono h.bel.size), h.low, h.ne⟩
theorem ActsK.grow (h : ActsK w wr p b g G L n now nowL last A c) : Grow wr (fun w' => ActsK w w' p b g G L n now nowL last A c) := fun _ hb => h.fresh hb
/-- the landed one has answered -/
theorem ActsK.land (h : ActsK w wr p b g G L n now nowL last A c) {now' : Int} (hx : Hx w' p b G n now' last) (ht : Tch (PB p b) wr w') : ActsK w w' p b g G L n now' nowL last A c :=
  ⟨hx, h.blk.tch ht (fun hp => by rcases hp with e | e; exact h.ne.1 e; exact h.ne.2 e), h.ref.tch (ht.more fun _ e => Or.inl e), h.al, h.bel.trans (ht.below h.bel.size (fun k hk => by have := h.low; rcases hk with e | e <;> omega)), h.low, h.ne⟩
theorem no_slice (A : Option Addr) (x y : Nat) (a b c : Int) : ∀ (i : Nat) (n : Int), (#[.slice A x y, .int .i64 a, .int .i64 b, .int .i64 c] : Array Value)[i]? ≠ some (.int .u64 n) := no_lab4 _ (fun _ h => by cases h) a b c
/-- the document's has answered -/
theorem acts_store {x0 : Option Addr} {x1 x2 : Nat} {x3 x4 x5 : Int} (hblk : Blk wr g 28 #[.slice x0 x1 x2, .int .i64 x3, .int .i64 x4, .int .i64 x5]) (hbel : Below w.heap.size w wr) (hlow : w.heap.size ≤ p ∧ w.heap.size ≤ b ∧ w.heap.size ≤ g) (hne : g ≠ p ∧ g ≠ b) {L' : List StP} {A' : Option Addr} {c' : Nat} {G' : List StP} {now' last' : Int} (hg : Hx wr p b G' n now' last') (hr : RefH wr (PA p b g) A' L') (ha : Alike G' L') :
    ActsK w ((((wr.setCell ⟨g, 0, none⟩ (.slice A' L'.length c')).setCell ⟨g, 1, none⟩ (.int .i64 now')).setCell ⟨g, 2, none⟩ (.int .i64 (last' + 1))).setCell ⟨g, 3, none⟩ (.int .i64 n)) p b g G' L' n now' now' last' A' c' := by
  have ht : Tch (PA p b g) wr ((((wr.setCell ⟨g, 0, none⟩ (.slice A' L'.length c')).setCell ⟨g, 1, none⟩ (.int .i64 now')).setCell ⟨g, 2, none⟩ (.int .i64 (last' + 1))).setCell ⟨g, 3, none⟩ (.int .i64 n)) := (Tch.refl _ wr).four (Or.inr rfl) _ _ _ _
  have hT : Tch (fun k => k = g) wr ((((wr.setCell ⟨g, 0, none⟩ (.slice A' L'.length c')).setCell ⟨g, 1, none⟩ (.int .i64 now')).setCell ⟨g, 2, none⟩ (.int .i64 (last' + 1))).setCell ⟨g, 3, none⟩ (.int .i64 n)) := (Tch.refl (fun k => k = g) wr).four (k := g) rfl _ _ _ _
  have hcs := no_slice x0 x1 x2 x3 x4 x5
  refine ⟨⟨⟨hg.h.blk.tch hT (fun e => hne.1 e.symm), hg.h.map.keep (hT.block b hg.h.map.lt (fun e => hne.2 e.symm)), fun s hs => ?_⟩, hg.inv, hg.hd, hg.hl, hg.eds⟩, hi_four hblk _ _ _ _, hr.tch ht, ha, hbel.trans (ht.below hbel.size (fun k hk => by have := hlow; rcases hk with (e | e) | e <;> omega)), hlow, hne⟩
  have e1 := (hg.h.eds s hs).1.notIn hblk hcs
  have e2 := (hg.h.eds s hs).2.notIn hblk hcs
  have hq : ∀ k, k = g → PB p b k ∨ k = g := fun _ e => Or.inr e
  exact ⟨⟨e1.hS, e1.hf, e1.hl, by rcases (e1.row.tch (hT.more hq)) with h | ⟨ad, e, hb, hn, hc⟩; exact .inl h; exact .inr ⟨ad, e, hb, fun hp => hn (Or.inl hp), hc⟩⟩, ⟨e2.hS, e2.hf, e2.hl, by rcases (e2.row.tch (hT.more hq)) with h | ⟨ad, e, hb, hn, hc⟩; exact .inl h; exact .inr ⟨ad, e, hb, fun hp => hn (Or.inl hp), hc⟩⟩⟩
theorem ActsK.store (h : ActsK w wr p b g G L n now nowL last A c) {L' : List StP} {A' : Option Addr} {c' : Nat} {G' : List StP} {now' last' : Int} (hg : Hx wr p b G' n now' last') (hr : RefH wr (PA p b g) A' L') (ha : Alike G' L') :
    ActsK w ((((wr.setCell ⟨g, 0, none⟩ (.slice A' L'.length c')).setCell ⟨g, 1, none⟩ (.int .i64 now')).setCell ⟨g, 2, none⟩ (.int .i64 (last' + 1))).setCell ⟨g, 3, none⟩ (.int .i64 n)) p b g G' L' n now' now' last' A' c' := acts_store h.blk h.bel h.low h.ne hg hr ha
end
/-- the landed answer to Undo or Redo -/
def LandU (w : World) (p b g : Nat) (G L : List StP) (n now' nowL last : Int) (A : Option Addr) (c : Nat) (er a : Int) (S : List UInt8) (l : List RunP) (X : List UInt8) (m : List RunP) (e : Ending) (w' : World) : Prop :=
  ∃ A5 c5 B5 d5, e = .returned (.tuple #[.agg #[.int .i64 a, .string ⟨S.toArray⟩, .slice A5 l.length c5, .string ⟨X.toArray⟩, .slice B5 m.length d5], .int .i64 er]) ∧ Txu w' A5 S l ∧ Txu w' B5 X m ∧ ActsK w w' p b g G L n now' nowL last A c
/-- the document's answer to Undo or Redo -/
def RefU (w5 : World) (L : List StP) (n now' last : Int) (A : Option Addr) (c : Nat) (er a : Int) (S : List UInt8) (l : List RunP) (X : List UInt8) (m : List RunP) (e : Ending) (w' : World) : Prop :=
  ∃ A5 c5 B5 d5, e = .returned (.tuple #[.agg #[.slice A L.length c, .int .i64 now', .int .i64 (last + 1), .int .i64 n], .agg #[.int .i64 a, .string ⟨S.toArray⟩, .slice A5 l.length c5, .string ⟨X.toArray⟩, .slice B5 m.length d5], .int .i64 er]) ∧ Txu w' A5 S l ∧ Txu w' B5 X m ∧ Below w5.heap.size w5 w'
theorem txu_rowG {w : World} {B : Nat} {A : Option Addr} {S : List UInt8} {l : List RunP} (h : RowG w B A (flatR l)) (hS : S.length ≤ maxLen) (hf : Fits l) (hl : l.length ≤ maxLen) : Txu w A S l := ⟨hS, hf, hl, h.row⟩
theorem txu_none' (w : World) : Txu w none [] [] := ⟨Nat.zero_le _, by intro x hx; simp at hx, Nat.zero_le _, .inl rfl⟩
/-- what both answer -/
def Both (fl fr : Nat) (w : World) (p b g : Nat) (G L : List StP) (n now last : Int) (A : Option Addr) (c : Nat) (er a : Int) (S : List UInt8) (l : List RunP) (X : List UInt8) (m : List RunP) (now' : Int) : Prop :=
  (∀ w4, ActsK w w4 p b g G L n now now last A c → Calls Try.prog fl #[.pointer (some ⟨p, 0, none⟩)] w4 (LandU w p b g G L n now' now last A c er a S l X m)) ∧
  (∀ w5, ActsK w w5 p b g G L n now' now last A c → Calls Try.prog fr #[.agg #[.slice A L.length c, .int .i64 now, .int .i64 (last + 1), .int .i64 n]] w5 (RefU w5 L n now' last A c er a S l X m))
section
variable {w w3 : World} {p b g : Nat} {G L : List StP} {n now last : Int} {A : Option Addr} {c : Nat}
theorem both_undo (h : ActsK w w3 p b g G L n now now last A c) : ∃ er a S l X m now', Both 12 13 w p b g G L n now last A c er a S l X m now' := by
  obtain ⟨s, hs, rfl⟩ := h.hx.inv.hnow
  have hsm := h.hx.inv.small
  have hlen := alike_len h.al
  have hf := find_self h.hx.inv.hup hs
  have hk := (alike_find h.al s.n).1
  rw [hf] at hk
  dsimp only at hk
  by_cases hu : s.up = -1
  · refine ⟨6, 0, [], [], [], [], s.n, fun w4 h4 => ?_, fun w5 h5 => ?_⟩
    · obtain ⟨s', hs', hn', hc⟩ := h4.hx.undo
      obtain rfl := inj_num h.hx.inv.hup hs' hs hn'
      rcases hc with ⟨_, hc⟩ | ⟨h0, _⟩
      · refine hc.mono ?_
        rintro e w' ⟨rfl, hb⟩
        exact ⟨none, 0, none, 0, rfl, txu_none' _, txu_none' _, h4.fresh hb⟩
      · omega
    · refine (refHUndo_none A c w5.heap.size L s.n (last + 1) n (by omega) w5 (Nat.le_refl _) h5.ref.rows (by rw [← hk.up, hu]; decide)).mono ?_
      rintro e w' ⟨rfl, hb⟩
      exact ⟨none, 0, none, 0, rfl, txu_none' _, txu_none' _, hb⟩
  · have hu0 : 0 ≤ s.up := by rcases h.hx.inv.kid hs with e | ⟨h0, _⟩; exact absurd e hu; exact h0
    obtain ⟨e1, e2, e3, e4, e5⟩ := hk.e (by rw [← hk.up]; exact hu0)
    refine ⟨0, s.e.a, s.e.X, s.e.m, s.e.S, s.e.l, s.up, fun w4 h4 => ?_, fun w5 h5 => ?_⟩
    · obtain ⟨s', hs', hn', hc⟩ := h4.hx.undo
      obtain rfl := inj_num h.hx.inv.hup hs' hs hn'
      rcases hc with ⟨hu', _⟩ | ⟨_, _, hi, hc⟩
      · exact absurd hu' hu
      · refine hc.mono ?_
        intro e w' hg
        have hl := GivesU.left h4.hx hi hg
        obtain ⟨A5, c5, B5, d5, rfl, h6, r1, r2, _⟩ := hg
        have ht := h6.eds s' hs
        exact ⟨A5, c5, B5, d5, rfl, txu_rowG r1.rowG ht.2.hS ht.2.hf ht.2.hl, txu_rowG r2.rowG ht.1.hS ht.1.hf ht.1.hl, h4.land hl.1 hl.2⟩
    · have hfx : (findS L s.n).2 = true := by rw [← (alike_find h.al s.n).2, hf]
      have hxL : (findS L s.n).1 ∈ L := (findS_neg hfx).1
      have ht := h5.ref.eds _ hxL
      obtain ⟨r, hr⟩ : ∃ r, findS L s.n = r := ⟨_, rfl⟩
      rw [hr] at hfx hxL ht hk e1 e2 e3 e4 e5
      obtain ⟨⟨n1, up, ⟨a, S, A1, l, c1, X, B1, m, d⟩⟩, is⟩ := r
      dsimp only at hk e1 e2 e3 e4 e5 ht
      rw [e1, e2, e3, e4, e5, hk.up]
      refine (refHUndo_some A c w5.heap.size L s.n (last + 1) n (by omega) w5 (Nat.le_refl _) h5.ref.rows n1 up a S A1 l c1 X B1 m d is hr (by have := hk.up; dsimp only at this; omega) ht.1.txu ht.2.txu).mono ?_
      rintro e w' ⟨E1, k1, E2, k2, rfl, t1, t2, hb⟩
      exact ⟨E1, k1, E2, k2, rfl, t1, t2, hb⟩
theorem both_redo (h : ActsK w w3 p b g G L n now now last A c) : ∃ er a S l X m now', Both 15 16 w p b g G L n now last A c er a S l X m now' := by
  have hsm := h.hx.inv.small
  have hlen := alike_len h.al
  rcases max_child h.hx.inv.hup now with hno | ⟨s, hs, hsu, hmax⟩
  · refine ⟨6, 0, [], [], [], [], now, fun w4 h4 => ?_, fun w5 h5 => ?_⟩
    · refine (hiRedo_none h4.hx.h h.hx.inv.hup hno).mono ?_
      rintro e w' ⟨rfl, hb⟩
      exact ⟨none, 0, none, 0, rfl, txu_none' _, txu_none' _, h4.fresh hb⟩
    · refine (refHRedo_none A c w5.heap.size L now (last + 1) n (by omega) w5 (Nat.le_refl _) h5.ref.rows (fun i hi => by
        rw [← (alike_at h.al i (by omega) hi).up]; exact hno _ (List.getElem_mem _))).mono ?_
      rintro e w' ⟨rfl, hb⟩
      exact ⟨none, 0, none, 0, rfl, txu_none' _, txu_none' _, hb⟩
  · obtain ⟨i, hi, rfl⟩ := List.getElem_of_mem hs
    have hiL : i < L.length := by omega
    have hk := alike_at h.al i hi hiL
    have hnow := h.hx.inv.nowLow
    obtain ⟨e1, e2, e3, e4, e5⟩ := hk.e (by rw [← hk.up, hsu]; exact hnow.1)
    refine ⟨0, G[i].e.a, G[i].e.S, G[i].e.l, G[i].e.X, G[i].e.m, G[i].n, fun w4 h4 => ?_, fun w5 h5 => ?_⟩
    · rcases h4.hx.redo with ⟨hno, _⟩ | ⟨s', hs', hsu', hmax', hi', hc⟩
      · exact absurd hsu (hno _ hs)
      · have e := inj_num h.hx.inv.hup hs' hs (by have := hmax s' hs' hsu'; have := hmax' _ hs hsu; omega)
        subst e
        refine hc.mono ?_
        intro e w' hg
        have hl := GivesU.left h4.hx hi' hg
        obtain ⟨A5, c5, B5, d5, rfl, h6, r1, r2, _⟩ := hg
        have ht := h6.eds _ hs
        exact ⟨A5, c5, B5, d5, rfl, txu_rowG r1.rowG ht.1.hS ht.1.hf ht.1.hl, txu_rowG r2.rowG ht.2.hS ht.2.hf ht.2.hl, h4.land hl.1 hl.2⟩
    · have hno : ∀ (j : Nat) (hj : j < L.length), i < j → L[j].up ≠ now := fun j hj hij e => by
        have hjG : j < G.length := by omega
        have hkj := alike_at h.al j hjG hj
        have h1 := hmax G[j] (List.getElem_mem hjG) (by rw [hkj.up]; exact e)
        have h2 : G[i].n < G[j].n := List.pairwise_iff_getElem.1 h.hx.inv.hup i j hi hjG hij
        omega
      have ht := h5.ref.eds L[i] (List.getElem_mem hiL)
      rw [e1, e2, e3, e4, e5, hk.n]
      refine (refHRedo_some A c w5.heap.size L now (last + 1) n (by omega) w5 (Nat.le_refl _) h5.ref.rows i hiL (by rw [← hk.up]; exact hsu) hno).mono ?_
      rintro e w' ⟨rfl, hb⟩
      exact ⟨_, _, _, _, rfl, grow_txu ht.1.txu _ hb, grow_txu ht.2.txu _ hb, hb⟩
end
/-- numbers handed back, among other calls -/
def NumsAt (wc w' : World) (p : List Int) (e : Ending) (w'' : World) : Prop := ∃ A5 c5, e = .returned (.slice A5 p.length c5) ∧ Hid (Grow w'' (fun v => Row v v.heap.size A5 (p.map intz))) ∧ Below wc.heap.size wc w'' ∧ Below w'.heap.size w' w''
theorem nums_at {wc w' w'' : World} {p : List Int} {e : Ending} (hb : Below wc.heap.size wc w') (h : GivesI w' p e w'') : NumsAt wc w' p e w'' := by
  obtain ⟨A, c, rfl, ho, bb⟩ := h
  exact ⟨A, c, rfl, fun v hv => ((Row.of_own ho).below hv).more hv.size, hb.trans (bb.mono hb.size), bb⟩
section
variable {w wc : World} {p b g : Nat} {G L : List StP} {n now last : Int} {A : Option Addr} {c : Nat}
theorem ActsK.states (h : ActsK w wc p b g G L n now now last A c) : ∀ w', Below wc.heap.size wc w' → Calls Try.prog 21 #[.pointer (some ⟨p, 0, none⟩)] w' (NumsAt wc w' (G.map StP.n)) := fun w' hb =>
  (hiStates_any (h.fresh hb).hx.h (by have := h.hx.inv.small; omega) h.hx.inv.hup).mono fun _ _ hg => nums_at hb hg
theorem ActsK.refStates (h : ActsK w wc p b g G L n now now last A c) : ∀ w', Below wc.heap.size wc w' → Calls Try.prog 22 #[.agg #[.slice A L.length c, .int .i64 now, .int .i64 (last + 1), .int .i64 n]] w' (NumsAt wc w' (G.map StP.n)) := fun w' hb => by
  have h1 := refHStates_any A c w'.heap.size L now (last + 1) n (by have := h.hx.inv.small; have := alike_len h.al; omega) w' (Nat.le_refl _) (h.fresh hb).ref.rows
  rw [← alike_nums h.al] at h1
  exact h1.mono fun _ _ hg => nums_at hb hg
theorem ActsK.path (h : ActsK w wc p b g G L n now now last A c) : ∀ w', Below wc.heap.size wc w' → Calls Try.prog 23 #[.pointer (some ⟨p, 0, none⟩)] w' (NumsAt wc w' (pathS G now)) := fun w' hb =>
  (hiPath_any (h.fresh hb).hx.h h.hx.inv (by have := h.hx.hl; omega)).mono fun _ _ hg => nums_at hb hg
theorem ActsK.refPath (h : ActsK w wc p b g G L n now now last A c) : ∀ w', Below wc.heap.size wc w' → Calls Try.prog 24 #[.agg #[.slice A L.length c, .int .i64 now, .int .i64 (last + 1), .int .i64 n]] w' (NumsAt wc w' (pathS G now)) := fun w' hb => by
  have h1 := refHPath_any A c w'.heap.size L now (last + 1) n (by have := h.hx.inv.small; have := alike_len h.al; omega) w' (Nat.le_refl _) (h.fresh hb).ref.rows
  rw [← alike_path h.al] at h1
  exact h1.mono fun _ _ hg => nums_at hb hg
theorem ActsK.nowAt (h : ActsK w wc p b g G L n now now last A c) : ∀ w', Below wc.heap.size wc w' → Calls Try.prog 19 #[.pointer (some ⟨p, 0, none⟩)] w' fun e w'' => e = .returned (.int .i64 now) ∧ w'' = w' := fun _w' hb => hiNow_any (h.fresh hb).hx.h
end
theorem ints_same {A A2 : Option Addr} {c d : Nat} {p : List Int} (hp : p.length ≤ 1000) {w wc : World} (hb : Below wc.heap.size wc w) (h : Row w w.heap.size A (p.map intz)) (hh : Row w w.heap.size A2 (p.map intz)) :
    Calls Try.prog 20 #[.slice A p.length c, .slice A2 p.length d] w fun e w' => e = .returned (.bool true) ∧ Below wc.heap.size wc w' ∧ Below w.heap.size w w' := by
  refine (refInts_any A A2 c d p p (by omega) (by omega) w h hh).mono ?_
  rintro e w' ⟨rfl, bb⟩
  exact ⟨by simp, hb.trans (bb.mono hb.size), bb⟩
end Go.Proofs.Ytfeaffabminpfaa

/-
  A history, the text beside it, and the texts at its states: layer 8.
-/
import Derived.Test.YtfeaffabminpfaaHiTexts
import Derived.Test.YtfeaffabminpfaaHiApply
import Derived.Test.YtfeaffabminpfaaHiForks
import Derived.Laws.OwnMore
namespace Go.Proofs.Ytfeaffabminpfaa
open Go.RowKit

theorem elt_txtH : Elt Try.prog 56 32 (.agg #[.string ⟨#[]⟩, .slice none 0 0]) 2 40 := ⟨Try.underlying56, by kernel_rfl, rfl, by decide⟩
/-- the text's variable, and the row of the texts -/
def VT (g8 : Nat) (v9 : Value) (k : Nat) : Prop := k = g8 ∨ v9.ownBlock = some k
structure TextK (w1 wr : World) (p b g8 : Nat) (n : Int) (G : List StP) (now last : Int) (L : List TxV) (t : TxV) (v9 : Value) : Prop where
  hx : Hx wr p b G n now last
  aw : Away wr (VT g8 v9) G
  tx : ∀ x ∈ L, TxO wr (VT g8 v9) x.A x.S x.l
  tt : TxO wr (VT g8 v9) t.A t.S t.l
  t8 : Blk wr g8 32 #[.string ⟨t.S.toArray⟩, .slice t.A t.l.length t.c]
  own : wr.ownsRow w1.heap.size 32 2 v9 L.length (flatV L)
  g9 : v9.ownBlock ≠ some g8
  low : w1.heap.size ≤ p ∧ w1.heap.size ≤ b ∧ w1.heap.size ≤ g8
  bel : Below w1.heap.size w1 wr
/-- what the law says of them, as plain values -/
structure TextP8 (G : List StP) (now last : Int) (L : List TxV) (t : TxV) : Prop where
  len : (L.length : Int) = last + 1
  cur : textAt L now = (t.S, t.l)
  edge : EdgeS (textAt L) G
  young : YoungS G now
section
variable {w1 wr w' : World} {p b g8 : Nat} {n : Int} {G G' : List StP} {now last now' last' : Int} {L : List TxV} {t x : TxV} {v9 v9' : Value}
theorem TextK.fresh (h : TextK w1 wr p b g8 n G now last L t v9) (hb : Below wr.heap.size wr w') : TextK w1 w' p b g8 n G now last L t v9 :=
  ⟨h.hx.fresh hb, h.aw.fresh hb, fun x hx => (h.tx x hx).fresh hb, h.tt.fresh hb, h.t8.below hb h.t8.lt, own_keep h.own hb (Nat.le_refl _), h.g9, h.low, h.bel.trans (hb.mono h.bel.size)⟩
theorem TextK.grow (h : TextK w1 wr p b g8 n G now last L t v9) : Grow wr (fun w' => TextK w1 w' p b g8 n G now last L t v9) := fun _ hb => h.fresh hb
theorem TextK.ltV (h : TextK w1 wr p b g8 n G now last L t v9) : ∀ k, VT g8 v9 k → k < wr.heap.size := fun k hk => by
  rcases hk with rfl | hk
  · exact h.t8.lt
  · exact (h.own.lt k hk).2
/-- a call on the history -/
theorem TextK.call (h : TextK w1 wr p b g8 n G now last L t v9) (hx : Hx w' p b G' n now' last') (ht : Tch (PB p b) wr w') (ha : Away w' (VT g8 v9) G') : TextK w1 w' p b g8 n G' now' last' L t v9 := by
  have hw := ht.more (Q := fun k => VT g8 v9 k ∨ PB p b k) fun _ e => Or.inr e
  have off : ∀ {A : Option Addr} {S : List UInt8} {l : List RunP}, TxO wr (VT g8 v9) A S l → TxO w' (VT g8 v9) A S l := fun q => ⟨q.hS, q.hf, q.hl, ((q.row.off h.hx.h).tch hw).sub fun _ _ e => Or.inl e⟩
  exact ⟨hx, ha, fun x hx => off (h.tx x hx), off h.tt, h.t8.tch ht (fun hp => hp.elim (fun e => absurd (blk_sort (e ▸ h.t8) h.hx.h.blk) (by decide)) (fun e => blk_not_map h.t8 h.hx.h.map e)), own_hst h.own ht h.hx.h (by decide), h.g9, h.low,
    h.bel.trans (ht.below h.bel.size (fun k hk => by have := h.low; rcases hk with e | e <;> omega))⟩
/-- other blocks than the history's are written -/
theorem Hx.apartP {P : Nat → Prop} (h : Hx wr p b G n now last) (hc : Tch P wr w') (h1 : ∀ k, PB p b k → ¬ P k) (ha : Away wr P G) : Hx w' p b G n now last := by
  have hw := hc.more (Q := fun k => PB p b k ∨ P k) fun _ e => Or.inr e
  refine ⟨⟨h.h.blk.tch hc (h1 p (Or.inl rfl)), h.h.map.keep (hc.block b h.h.map.lt (h1 b (Or.inr rfl))), fun s hs => ?_⟩, h.inv, h.hd, h.hl, h.eds⟩
  have ht := h.h.eds s hs
  exact ⟨⟨ht.1.hS, ht.1.hf, ht.1.hl, ((ht.1.row.or (ha s hs).1).tch hw).sub fun _ _ e => Or.inl e⟩, ⟨ht.2.hS, ht.2.hf, ht.2.hl, ((ht.2.row.or (ha s hs).2).tch hw).sub fun _ _ e => Or.inl e⟩⟩
/-- the text's variable is written -/
theorem TextK.setT (h : TextK w1 wr p b g8 n G now last L t v9) (hx : TxO wr (VT g8 v9) x.A x.S x.l) : TextK w1 ((wr.setCell ⟨g8, 0, none⟩ (.string ⟨x.S.toArray⟩)).setCell ⟨g8, 1, none⟩ (.slice x.A x.l.length x.c)) p b g8 n G now last L x v9 := by
  have hc : Tch (fun k => k = g8) wr ((wr.setCell ⟨g8, 0, none⟩ (.string ⟨x.S.toArray⟩)).setCell ⟨g8, 1, none⟩ (.slice x.A x.l.length x.c)) := ((Tch.refl (fun k => k = g8) wr).setCell (p := ⟨g8, 0, none⟩) (fun _ => rfl) _).setCell (p := ⟨g8, 1, none⟩) (fun _ => rfl) _
  have hv := hc.more (Q := VT g8 v9) fun _ e => Or.inl e
  refine ⟨h.hx.apartP hc (fun k hk e => ?_) (h.aw.sub fun _ _ e => Or.inl e), h.aw.tch hv, fun y hy => (h.tx y hy).tch hv, hx.tch hv, ?_, own_tchK h.own hc (fun k hk e => h.g9 (e ▸ hk)), h.g9, h.low, h.bel.trans (hc.below h.bel.size (fun k hk => by have := h.low; omega))⟩
  · subst e
    rcases hk with e | e
    · exact absurd (blk_sort (e ▸ h.t8) h.hx.h.blk) (by decide)
    · exact blk_not_map h.t8 h.hx.h.map e
  · have := (h.t8.set_ 0 (.string ⟨x.S.toArray⟩)).set_ 1 (.slice x.A x.l.length x.c); simpa using this
/-- one text more -/
theorem TextK.app (h : TextK w1 wr p b g8 n G now last L t v9) (hx : TxO wr (VT g8 v9) x.A x.S x.l) (ho : w'.ownsRow w1.heap.size 32 2 v9' (L.length + 1) (flatV L ++ [.string ⟨x.S.toArray⟩, .slice x.A x.l.length x.c])) (hc : Tch (fun k => v9.ownBlock = some k) wr w') (hn : ∀ k, v9'.ownBlock = some k → v9.ownBlock = some k ∨ wr.heap.size ≤ k) :
    TextK w1 w' p b g8 n G now last (L ++ [x]) t v9' ∧ TxO w' (VT g8 v9') x.A x.S x.l := by
  have hV : ∀ k, VT g8 v9' k → VT g8 v9 k ∨ wr.heap.size ≤ k := fun k hk => by
    rcases hk with hk | hk
    · exact Or.inl (Or.inl hk)
    · exact (hn k hk).imp Or.inr id
  have off : ∀ {A : Option Addr} {S : List UInt8} {l : List RunP}, TxO wr (VT g8 v9) A S l → TxO w' (VT g8 v9') A S l := fun q =>
    ⟨q.hS, q.hf, q.hl, ((q.row.sub (Q := fun k => VT g8 v9 k ∨ VT g8 v9' k) (fun k hk hq => hq.elim id (fun h => (hV k h).elim id (fun h => by omega)))).tch (hc.more fun k hk => Or.inl (Or.inr hk))).sub fun _ _ e => Or.inr e⟩
  refine ⟨⟨h.hx.apart hc h.own (by decide) (h.aw.sub fun _ _ e => Or.inr e), away_grow h.aw hc (fun _ e => Or.inr e) hV, fun y hy => ?_, off h.tt, h.t8.tch hc h.g9, ?_, fun e => ?_, h.low, h.bel.trans (hc.below h.bel.size (fun k hk => (h.own.lt k hk).1))⟩, off hx⟩
  · rcases List.mem_append.1 hy with hy | hy
    · exact off (h.tx y hy)
    · rw [List.mem_singleton.1 hy]; exact off hx
  · rw [flatV_push, List.length_append]; exact ho
  · rcases hn g8 e with e | e
    · exact h.g9 e
    · have := h.t8.lt; omega
theorem txu_own {base c : Nat} {A A' : Option Addr} {S : List UInt8} {l : List RunP} {P : Nat → Prop} (h : OwnR w' base A c l) (ht : TxO wr P A' S l) : Txu w' A S l := ⟨ht.hS, ht.hf, ht.hl, h.rowG.row⟩
/-- a text that a call has made -/
theorem txo_new {A : Option Addr} {S : List UInt8} {l : List RunP} {c : Nat} {V : Nat → Prop} (hV : ∀ k, V k → k < wr.heap.size) (ht : Txu w' A S l) (ho : w'.ownsRow wr.heap.size 71 2 (.slice A l.length c) l.length (flatR l)) : TxO w' V A S l :=
  ⟨ht.hS, ht.hf, ht.hl, RowO.of_rowG (rowG_own ho) (fun k hk hv => by have := hV k hv; omega)⟩
/-- the present state is another one -/
theorem TextK.moved (h : TextK w1 wr p b g8 n G now last L t v9) (hc : Tch (fun k => k = p) wr w') (hb : Blk w' p 67 #[.int .i64 n, .int .i64 now', .int .i64 last, .map (some b)]) (hi : InvS G now' last n) : TextK w1 w' p b g8 n G now' last L t v9 :=
  h.call ⟨h.hx.h.again hc hb, hi, h.hx.hd, h.hx.hl, h.hx.eds⟩ (hc.more fun _ e => Or.inl e) (((h.hx.h.away.or h.aw).tch (hc.more fun _ e => Or.inl (Or.inl e))).sub fun _ _ e => Or.inr e)
/-- another text beside a call on the history -/
theorem TextK.beside (h : TextK w1 wr p b g8 n G now last L t v9) (ht : Tch (PB p b) wr w') {A : Option Addr} {S : List UInt8} {l : List RunP} (q : TxO wr (VT g8 v9) A S l) : TxO w' (VT g8 v9) A S l :=
  ⟨q.hS, q.hf, q.hl, ((q.row.off h.hx.h).tch (ht.more (Q := fun k => VT g8 v9 k ∨ PB p b k) fun _ e => Or.inr e)).sub fun _ _ e => Or.inl e⟩
/-- where a state's text lies -/
theorem TextK.at_ {g9 c9 : Nat} (h : TextK w1 wr p b g8 n G now last L t (.slice (some ⟨g9, 0, none⟩) L.length c9)) {j : Nat} (hq : j < L.length) {V : List UInt8} {q : List RunP} (e : textAt L j = (V, q)) : ∃ A c, Grow wr (fun w' => (w'.cell? ⟨g9, j * 2, none⟩ = some (.string ⟨V.toArray⟩) ∧ w'.cell? ⟨g9, j * 2 + 1, none⟩ = some (.slice A q.length c)) ∧ Txu w' A V q) := by
  have e1 := textAt_lt (L := L) (q := (j : Int)) (by omega) (by omega)
  rw [e] at e1
  injection e1 with e1 e2
  refine ⟨L[j].A, L[j].c, fun w' hb => ?_⟩
  have ho := own_keep h.own hb (Nat.le_refl _)
  have hf := flatV_at L j hq
  have hx := ((h.tx _ (List.getElem_mem hq)).fresh hb).txu
  have e1' : V = L[j].S := e1
  have e2' : q = L[j].l := e2
  rw [e1', e2']
  exact ⟨⟨by rw [ho.cellAt (j * 2) (by omega)]; exact hf.1, by rw [ho.cellAt (j * 2 + 1) (by omega)]; exact hf.2⟩, hx⟩
theorem TextK.form (h : TextK w1 wr p b g8 n G now last L t v9) (hl : (L.length : Int) = last + 1) (h0 : 0 ≤ last) : ∃ g9 c9, v9 = .slice (some ⟨g9, 0, none⟩) L.length c9 := by
  rcases h.own.2 with ⟨_, h⟩ | ⟨g, cap, cur, h, _⟩
  · omega
  · exact ⟨g, cap, h⟩
end
section
variable {G G' : List StP} {n now last : Int} {L : List TxV} {t x : TxV}
theorem TextP8.addT (h : TextP8 G now last L t) (inv : InvS G now last n) {e : EdV} (ha : AddTo (G ++ [⟨last + 1, now, e⟩]) n (last + 1) G') (he : applyE t.S t.l e.a e.S e.l e.X e.m = ((x.S, x.l), 0)) : TextP8 G' (last + 1) (last + 1) (L ++ [x]) x := by
  have hnow := inv.nowLow
  have hold : ∀ q, 0 ≤ q → q ≤ last → textAt (L ++ [x]) q = textAt L q := fun q h0 hq => textAt_old h0 (by have := h.len; omega)
  have hnew : textAt (L ++ [x]) (last + 1) = (x.S, x.l) := textAt_new h.len.symm
  refine ⟨by rw [List.length_append]; have := h.len; simp; omega, hnew, edge_sub (sub_add ha) (edge_add (edge_more inv hold h.edge) ?_), young_sub (sub_add ha) (young_add inv rfl rfl h.young)⟩
  dsimp only
  rw [hold now hnow.1 hnow.2, hnew, h.cur]
  exact he
theorem TextP8.undoT (h : TextP8 G now last L t) {s : StP} (hs : s ∈ G) (hn : s.n = now) (hu : 0 ≤ s.up) : applyE t.S t.l s.e.a s.e.X s.e.m s.e.S s.e.l = (textAt L s.up, 0) := by
  have he := h.edge s hs hu
  rw [hn, h.cur] at he
  exact back_ok he
theorem TextP8.redoT (h : TextP8 G now last L t) {c : StP} (hc : c ∈ G) (hu : c.up = now) (h0 : 0 ≤ now) : applyE t.S t.l c.e.a c.e.S c.e.l c.e.X c.e.m = (textAt L c.n, 0) := by
  have he := h.edge c hc (by omega)
  rw [hu, h.cur] at he
  exact he
end
theorem textK_start {w w1 w3 : World} {p b : Nat} {n : Int} {A : Option Addr} {c : Nat} {S : List UInt8} {l : List RunP} (hB : Below w.heap.size w w1) (h13 : Below w1.heap.size w1 w3) (hx : Hx w3 p b [firstS] n 0 0) (hp : w1.heap.size ≤ p) (hb : w1.heap.size ≤ b) (h : Txt w w.heap.size A S l) :
    TextK w1 ((w3.alloc (.cells #[.string ⟨S.toArray⟩, .slice A l.length c] 32)).alloc (.cells #[.string ⟨S.toArray⟩, .slice A l.length c] 32)) p b w3.heap.size n [firstS] 0 0 [⟨S, A, l, c⟩] ⟨S, A, l, c⟩ (.slice (some ⟨w3.heap.size + 1, 0, none⟩) 1 1) ∧ TextP8 [firstS] 0 0 [⟨S, A, l, c⟩] ⟨S, A, l, c⟩ := by
  have e : (w3.alloc (.cells #[.string ⟨S.toArray⟩, .slice A l.length c] 32)).heap.size = w3.heap.size + 1 := by simp
  have b5 : Below w3.heap.size w3 ((w3.alloc (.cells #[.string ⟨S.toArray⟩, .slice A l.length c] 32)).alloc (.cells #[.string ⟨S.toArray⟩, .slice A l.length c] 32)) := ((Below.refl _ w3).alloc (Nat.le_refl _) _).alloc (by omega) _
  have z1 := hB.size
  have z3 := h13.size
  have h15 := h13.trans (b5.mono z3)
  have hT := h.below (hB.trans (h15.mono z1))
  have z5 := h15.size
  have hX : TxO ((w3.alloc (.cells #[.string ⟨S.toArray⟩, .slice A l.length c] 32)).alloc (.cells #[.string ⟨S.toArray⟩, .slice A l.length c] 32)) (VT w3.heap.size (.slice (some ⟨w3.heap.size + 1, 0, none⟩) 1 1)) A S l := TxO.of_txt hT (by omega) (fun k hk hv => by
    rcases hv with hv | hv
    · omega
    · simp [Value.ownBlock] at hv; omega)
  refine ⟨⟨hx.fresh b5, fun s hs => by rw [List.mem_singleton.1 hs]; exact ⟨.inl rfl, .inl rfl⟩, fun x hx => by rw [List.mem_singleton.1 hx]; exact hX, hX, (Blk.new w3 _ _).alloc _, ?_, by simp [Value.ownBlock], ⟨hp, hb, z3⟩, h15⟩, rfl, rfl, edge_first, young_first⟩
  have := World.ownsRow_lit (base := w1.heap.size) (e := 32) (size := 2) (w3.alloc (.cells #[.string ⟨S.toArray⟩, .slice A l.length c] 32)) #[.string ⟨S.toArray⟩, .slice A l.length c] 1 (by omega) (by unfold maxLen; omega) rfl
  rw [e] at this
  exact this
end Go.Proofs.Ytfeaffabminpfaa

/-
  The histories that were left, and the two rows that the law keeps of them: layer 8.
-/
import Derived.Test.YtfeaffabminpfaaHiAway
import Derived.Test.YtfeaffabminpfaaPieMem
namespace Go.Proofs.Ytfeaffabminpfaa
open Go.RowKit

theorem elt_ptrH : Elt Try.prog 61 24 (.pointer none) 1 8 := ⟨Try.underlying61, by kernel_rfl, rfl, by decide⟩
theorem elt_intsH : Elt Try.prog 62 50 (.slice none 0 0) 1 24 := ⟨Try.underlying62, by kernel_rfl, rfl, by decide⟩
/-- a history that was left, and its numbers then -/
structure OldH where
  p : Nat
  b : Nat
  G : List StP
  now : Int
  last : Int
  A : Option Addr
  c : Nat
def OldH.nums (r : OldH) : List Int := r.G.map StP.n ++ [r.now]
def OldH.len (r : OldH) : Nat := (r.G.map StP.n).length + 1
theorem OldH.nums_len (r : OldH) : r.nums.length = r.len := by simp [OldH.nums, OldH.len]
def ptrsH (L : List OldH) : List Value := L.map fun r => .pointer (some ⟨r.p, 0, none⟩)
def rowsH (L : List OldH) : List Value := L.map fun r => .slice r.A r.len r.c
theorem ptrsH_push (L : List OldH) (r : OldH) : ptrsH (L ++ [r]) = ptrsH L ++ [.pointer (some ⟨r.p, 0, none⟩)] := by simp [ptrsH]
theorem rowsH_push (L : List OldH) (r : OldH) : rowsH (L ++ [r]) = rowsH L ++ [.slice r.A r.len r.c] := by simp [rowsH]
theorem ptrsH_at (L : List OldH) (k : Nat) (hk : k < L.length) : (ptrsH L)[k]? = some (.pointer (some ⟨L[k].p, 0, none⟩)) := by simp [ptrsH, hk]
theorem rowsH_at (L : List OldH) (k : Nat) (hk : k < L.length) : (rowsH L)[k]? = some (.slice L[k].A L[k].len L[k].c) := by simp [rowsH, hk]
/-- the blocks of the two rows -/
def VB (v4 v5 : Value) (k : Nat) : Prop := v4.ownBlock = some k ∨ v5.ownBlock = some k
structure Held (w1 wr : World) (V : Nat → Prop) (r : OldH) : Prop where
  hx : Hx wr r.p r.b r.G 9 r.now r.last
  aw : Away wr V r.G
  nums : wr.ownsRow w1.heap.size 3 1 (.slice r.A r.len r.c) r.len (r.nums.map intz)
structure ForkH (w1 wr : World) (p b : Nat) (G : List StP) (now last : Int) (L : List OldH) (v4 : Value) (n4 : Nat) (x4 : List Value) (v5 : Value) (n5 : Nat) (x5 : List Value) : Prop where
  hx : Hx wr p b G 9 now last
  aw : Away wr (VB v4 v5) G
  held : ∀ r ∈ L, Held w1 wr (VB v4 v5) r
  ne : ∀ r ∈ L, r.p ≠ p ∧ r.b ≠ b
  own4 : wr.ownsRow w1.heap.size 24 1 v4 n4 x4
  own5 : wr.ownsRow w1.heap.size 50 1 v5 n5 x5
  low : w1.heap.size ≤ p ∧ w1.heap.size ≤ b
  bel : Below w1.heap.size w1 wr
section
variable {w1 wr w' : World} {p b : Nat} {G : List StP} {now last : Int} {L : List OldH} {v4 v5 : Value} {n4 n5 : Nat} {x4 x5 : List Value}
theorem ForkH.fresh (h : ForkH w1 wr p b G now last L v4 n4 x4 v5 n5 x5) (hb : Below wr.heap.size wr w') : ForkH w1 w' p b G now last L v4 n4 x4 v5 n5 x5 :=
  ⟨h.hx.fresh hb, h.aw.fresh hb, fun r hr => ⟨(h.held r hr).hx.fresh hb, (h.held r hr).aw.fresh hb, own_keep (h.held r hr).nums hb (Nat.le_refl _)⟩, h.ne, own_keep h.own4 hb (Nat.le_refl _), own_keep h.own5 hb (Nat.le_refl _), h.low, h.bel.trans (hb.mono h.bel.size)⟩
theorem ForkH.grow (h : ForkH w1 wr p b G now last L v4 n4 x4 v5 n5 x5) : Grow wr (fun w' => ForkH w1 w' p b G now last L v4 n4 x4 v5 n5 x5) := fun _ hb => h.fresh hb
/-- a call on the present history -/
theorem ForkH.does (h : ForkH w1 wr p b G now last L v4 n4 x4 v5 n5 x5) {e : Ending} (hL : LeftA wr p b G 9 last e w') : ∃ G' now' last', last' ≤ last + 1 ∧ ForkH w1 w' p b G' now' last' L v4 n4 x4 v5 n5 x5 := by
  obtain ⟨_, G', now', last', h1, h2, h3, h4⟩ := hL
  have ha' := h4 _ (fun k hk => Or.inl hk) (fun k hk => by
    rcases hk with (rfl | rfl) | hk | hk
    · exact h.hx.h.blk.lt
    · exact h.hx.h.map.lt
    · exact (h.own4.lt k hk).2
    · exact (h.own5.lt k hk).2) (h.hx.h.away.or h.aw)
  refine ⟨G', now', last', h2, h1, ha'.sub (fun _ _ e => Or.inr e), fun r hr => ?_, h.ne, own_hst h.own4 h3 h.hx.h (by decide), own_hst h.own5 h3 h.hx.h (by decide), h.low, h.bel.trans (h3.below h.bel.size (fun k hk => by have := h.low; rcases hk with e | e <;> omega))⟩
  have q := h.held r hr
  exact ⟨q.hx.other h.hx.h (h.ne r hr) h3, fun s hs => ⟨(((q.aw s hs).1.off h.hx.h).tch (h3.more fun _ e => Or.inr e)).sub fun _ _ e => Or.inl e, (((q.aw s hs).2.off h.hx.h).tch (h3.more fun _ e => Or.inr e)).sub fun _ _ e => Or.inl e⟩, own_hst q.nums h3 h.hx.h (by decide)⟩
theorem away_grow {V V' T : Nat → Prop} (ha : Away wr V G) (hc : Tch T wr w') (hT : ∀ k, T k → V k) (hV : ∀ k, V' k → V k ∨ wr.heap.size ≤ k) : Away w' V' G :=
  ((ha.sub (Q := fun k => V k ∨ V' k) (fun k hk hq => hq.elim id (fun h => (hV k h).elim id (fun h => by omega)))).tch (hc.more fun k hk => Or.inl (hT k hk))).sub fun _ _ e => Or.inr e
theorem ForkH.app4 {v4' : Value} {n' : Nat} {x' : List Value} (h : ForkH w1 wr p b G now last L v4 n4 x4 v5 n5 x5) (ho : w'.ownsRow w1.heap.size 24 1 v4' n' x') (hc : Tch (fun k => v4.ownBlock = some k) wr w') (hn : ∀ k, v4'.ownBlock = some k → v4.ownBlock = some k ∨ wr.heap.size ≤ k) : ForkH w1 w' p b G now last L v4' n' x' v5 n5 x5 := by
  have hV : ∀ k, VB v4' v5 k → VB v4 v5 k ∨ wr.heap.size ≤ k := fun k hk => by
    rcases hk with hk | hk
    · exact (hn k hk).imp Or.inl id
    · exact Or.inl (Or.inr hk)
  exact ⟨h.hx.apart hc h.own4 (by decide) (h.aw.sub fun _ _ e => Or.inl e), away_grow h.aw hc (fun _ e => Or.inl e) hV, fun r hr => ⟨(h.held r hr).hx.apart hc h.own4 (by decide) ((h.held r hr).aw.sub fun _ _ e => Or.inl e), away_grow (h.held r hr).aw hc (fun _ e => Or.inl e) hV, own_two (h.held r hr).nums hc h.own4 (by decide)⟩, h.ne, ho, own_two h.own5 hc h.own4 (by decide), h.low, h.bel.trans (hc.below h.bel.size (fun k hk => (h.own4.lt k hk).1))⟩
theorem ForkH.app5 {v5' : Value} {n' : Nat} {x' : List Value} (h : ForkH w1 wr p b G now last L v4 n4 x4 v5 n5 x5) (ho : w'.ownsRow w1.heap.size 50 1 v5' n' x') (hc : Tch (fun k => v5.ownBlock = some k) wr w') (hn : ∀ k, v5'.ownBlock = some k → v5.ownBlock = some k ∨ wr.heap.size ≤ k) : ForkH w1 w' p b G now last L v4 n4 x4 v5' n' x' := by
  have hV : ∀ k, VB v4 v5' k → VB v4 v5 k ∨ wr.heap.size ≤ k := fun k hk => by
    rcases hk with hk | hk
    · exact Or.inl (Or.inl hk)
    · exact (hn k hk).imp Or.inr id
  exact ⟨h.hx.apart hc h.own5 (by decide) (h.aw.sub fun _ _ e => Or.inr e), away_grow h.aw hc (fun _ e => Or.inr e) hV, fun r hr => ⟨(h.held r hr).hx.apart hc h.own5 (by decide) ((h.held r hr).aw.sub fun _ _ e => Or.inr e), away_grow (h.held r hr).aw hc (fun _ e => Or.inr e) hV, own_two (h.held r hr).nums hc h.own5 (by decide)⟩, h.ne, own_two h.own4 hc h.own5 (by decide), ho, h.low, h.bel.trans (hc.below h.bel.size (fun k hk => (h.own5.lt k hk).1))⟩
/-- the copy is the present history now -/
theorem ForkH.push (h : ForkH w1 wr p b G now last L v4 n4 x4 v5 n5 x5) {A : Option Addr} {c p' b' : Nat} (hn : wr.ownsRow w1.heap.size 3 1 (.slice A ((G.map StP.n).length + 1) c) ((G.map StP.n).length + 1) ((G.map StP.n ++ [now]).map intz)) (hp : wr.heap.size ≤ p') (hq : wr.heap.size ≤ b') (hs : Hst w' p' b' G 9 now last) (hb : Below wr.heap.size wr w') :
    ForkH w1 w' p' b' G now last (L ++ [⟨p, b, G, now, last, A, c⟩]) v4 n4 x4 v5 n5 x5 := by
  have hf := h.fresh hb
  refine ⟨⟨hs, h.hx.inv, h.hx.hd, h.hx.hl, h.hx.eds⟩, hf.aw, fun r hr => ?_, fun r hr => ?_, hf.own4, hf.own5, ⟨Nat.le_trans h.bel.size hp, Nat.le_trans h.bel.size hq⟩, hf.bel⟩
  · rcases List.mem_append.1 hr with hr | hr
    · exact hf.held r hr
    · obtain rfl := List.mem_singleton.1 hr
      exact ⟨hf.hx, hf.aw, own_keep hn hb (Nat.le_refl _)⟩
  · rcases List.mem_append.1 hr with hr | hr
    · have := (h.held r hr).hx.h.blk.lt
      have := (h.held r hr).hx.h.map.lt
      exact ⟨by omega, by omega⟩
    · obtain rfl := List.mem_singleton.1 hr
      have := h.hx.h.blk.lt
      have := h.hx.h.map.lt
      exact ⟨by show p ≠ p'; omega, by show b ≠ b'; omega⟩
end
/-- one number more, in a region that draws its order -/
theorem append_num {wr wz : World} {A : Option Addr} {c g : Nat} {l : List Int} {now : Int} (hl : l.length ≤ 1000) (h : wz.ownsRow wr.heap.size 3 1 (.slice A l.length c) l.length (l.map intz)) (hc : wz.cell? ⟨g, 0, none⟩ = some (.int .i64 now)) (hg : g < wz.heap.size) (hb : Below wr.heap.size wr wz) :
    ∃ A' c' w', (Builtin.append_ #[50, 50] 50 #[.slice A l.length c, .slice (some ⟨g, 0, none⟩) 1 1]).run Try.prog wz = .ok (.slice A' (l.length + 1) c') w' ∧ w'.ownsRow wr.heap.size 3 1 (.slice A' (l.length + 1) c') (l.length + 1) ((l ++ [now]).map intz) ∧ Below wr.heap.size wr w' := by
  obtain ⟨i, hi, hz, h1, h2⟩ := info_parts elt_int.hi
  have hrow : Row wz wz.heap.size (some ⟨g, 0, none⟩) [.int .i64 now] := .inr ⟨_, rfl, hg, fun j u hj => by
    match j, hj with
    | 0, hj => simp at hj; subst hj; exact hc
    | j + 1, hj => simp at hj⟩
  obtain ⟨v', w', hrun, hown, hgr, _⟩ := run_append_any wr.heap.size 50 50 50 3 i _ 1 8 elt_int.ht hi hz h1 h2 rfl _ _ _ h _ 1 [.int .i64 now] (Src.ofRow elt_int.ht rfl (by decide) hrow (by intro u hu; simp at hu; subst hu; rfl)) (by unfold maxLen; omega) (by omega) hb.size
  obtain ⟨A', c', rfl⟩ := own_form hown
  exact ⟨A', c', w', hrun, by rw [List.map_append]; exact hown, hb.trans (own_below h hgr hb.size)⟩
/-- where the two rows hold a history that was left, and its numbers -/
theorem ForkH.at_ {w1 wr : World} {p b : Nat} {G : List StP} {now last : Int} {L : List OldH} {A4 A5 : Option Addr} {c4 c5 : Nat} (h : ForkH w1 wr p b G now last L (.slice A4 L.length c4) L.length (ptrsH L) (.slice A5 L.length c5) L.length (rowsH L)) {j : Nat} (hj : j < L.length) :
    ∃ (g4 g5 : Nat) (r : OldH), A4 = some ⟨g4, 0, none⟩ ∧ A5 = some ⟨g5, 0, none⟩ ∧ Grow wr (fun w' => (w'.cell? ⟨g4, j, none⟩ = some (.pointer (some ⟨r.p, 0, none⟩)) ∧ w'.cell? ⟨g5, j, none⟩ = some (.slice r.A r.len r.c)) ∧ Hx w' r.p r.b r.G 9 r.now r.last ∧ Row w' w'.heap.size r.A (r.nums.map intz)) := by
  obtain ⟨g4, rfl⟩ : ∃ g4, A4 = some ⟨g4, 0, none⟩ := by
    rcases h.own4.2 with ⟨_, h⟩ | ⟨g, cap, cur, h, _⟩
    · omega
    · injection h with h1; exact ⟨g, h1⟩
  obtain ⟨g5, rfl⟩ : ∃ g5, A5 = some ⟨g5, 0, none⟩ := by
    rcases h.own5.2 with ⟨_, h⟩ | ⟨g, cap, cur, h, _⟩
    · omega
    · injection h with h1; exact ⟨g, h1⟩
  have q := h.held L[j] (List.getElem_mem hj)
  refine ⟨g4, g5, L[j], rfl, rfl, fun w' hb => ⟨⟨?_, ?_⟩, q.hx.fresh hb, (Row.of_own (own_keep q.nums hb (Nat.le_refl _)))⟩⟩
  · have h4 := own_keep h.own4 hb (Nat.le_refl _)
    rw [h4.cellAt j (by omega)]
    exact ptrsH_at L j hj
  · have h5 := own_keep h.own5 hb (Nat.le_refl _)
    rw [h5.cellAt j (by omega)]
    exact rowsH_at L j hj
/-- the numbers of a history that was left, in whatever world -/
theorem states_in {wr : World} {p b : Nat} {G : List StP} {now last : Int} (h : Grow wr (fun w' => Hx w' p b G 9 now last)) {ln : List Int} (hl : G.map StP.n = ln) :
    ∀ w', Below wr.heap.size wr w' → Calls Try.prog 21 #[.pointer (some ⟨p, 0, none⟩)] w' fun e w'' => ∃ A c, e = .returned (.slice A ln.length c) ∧ Hid (w''.ownsRow wr.heap.size 3 1 (.slice A ln.length c) ln.length (ln.map intz)) ∧ Below wr.heap.size wr w'' ∧ Hid (Below w'.heap.size w' w'') := fun w' hb => by
  have hx := h w' hb
  refine (hiStates_any hx.h (by have := hx.inv.small; omega) hx.inv.hup).mono ?_
  rintro e w'' ⟨A, c, rfl, own, bb⟩
  rw [hl] at own ⊢
  exact ⟨A, c, rfl, own_base own hb.size, hb.trans (bb.mono hb.size), bb⟩
theorem now_in {wr : World} {p b : Nat} {G : List StP} {now last : Int} (h : Grow wr (fun w' => Hx w' p b G 9 now last)) :
    ∀ w', Below wr.heap.size wr w' → Calls Try.prog 19 #[.pointer (some ⟨p, 0, none⟩)] w' fun e w'' => e = .returned (.int .i64 now) ∧ w' = w'' := fun w' hb => (hiNow_any (h w' hb).h).mono fun _ _ h => ⟨h.1, h.2.symm⟩
/-- the same numbers twice -/
theorem ints_sameN {A A2 : Option Addr} {c d N : Nat} {p : List Int} (hN : p.length = N) (hp : N ≤ 1000) {w wc : World} (hb : Below wc.heap.size wc w) (h : Row w w.heap.size A (p.map intz)) (hh : Row w w.heap.size A2 (p.map intz)) :
    Calls Try.prog 20 #[.slice A N c, .slice A2 N d] w fun e w' => e = .returned (.bool true) ∧ Below wc.heap.size wc w' := by
  subst hN
  refine (refInts_any A A2 c d p p (by omega) (by omega) w h hh).mono ?_
  rintro e w' ⟨rfl, bb⟩
  exact ⟨by simp, hb.trans (bb.mono hb.size)⟩
end Go.Proofs.Ytfeaffabminpfaa

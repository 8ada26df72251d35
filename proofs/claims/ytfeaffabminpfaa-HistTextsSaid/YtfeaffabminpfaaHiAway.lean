/-
  Histories that were left, and what the copies do not touch: layer 8.
-/
import Derived.Test.YtfeaffabminpfaaHiHx
import Derived.Test.YtfeaffabminpfaaHsOpen
import Derived.Maps.AppendAt
namespace Go.Proofs.Ytfeaffabminpfaa
open Go.RowKit

/-- the runs of a history's edits lie away from Q -/
def Away (w : World) (Q : Nat → Prop) (G : List StP) : Prop := ∀ s ∈ G, RowO w Q s.e.A (flatR s.e.l) ∧ RowO w Q s.e.B (flatR s.e.m)
section
variable {w w' : World} {P Q : Nat → Prop} {G : List StP} {A : Option Addr} {xs : List Value}
theorem RowO.or (h : RowO w P A xs) (h' : RowO w Q A xs) : RowO w (fun k => P k ∨ Q k) A xs := by
  rcases h with h | ⟨ad, e, hl, hn, hc⟩
  · exact .inl h
  · rcases h' with h' | ⟨ad', e', _, hn', _⟩
    · exact .inl h'
    · rw [e] at e'
      injection e' with e'
      subst e'
      exact .inr ⟨ad, e, hl, fun hp => hp.elim hn hn', hc⟩
theorem RowO.sub (h : RowO w P A xs) (hQ : ∀ k, k < w.heap.size → Q k → P k) : RowO w Q A xs := by
  rcases h with h | ⟨ad, e, hl, hn, hc⟩
  · exact .inl h
  · exact .inr ⟨ad, e, hl, fun hq => hn (hQ _ hl hq), hc⟩
theorem Away.tch (h : Away w Q G) (hc : Tch Q w w') : Away w' Q G := fun s hs => ⟨(h s hs).1.tch hc, (h s hs).2.tch hc⟩
theorem Away.fresh (h : Away w Q G) (hb : Below w.heap.size w w') : Away w' Q G := h.tch (Tch.fresh hb)
theorem Away.sub (h : Away w P G) (hQ : ∀ k, k < w.heap.size → Q k → P k) : Away w Q G := fun s hs => ⟨(h s hs).1.sub hQ, (h s hs).2.sub hQ⟩
theorem Away.or (h : Away w P G) (h' : Away w Q G) : Away w (fun k => P k ∨ Q k) G := fun s hs => ⟨(h s hs).1.or (h' s hs).1, (h s hs).2.or (h' s hs).2⟩
theorem Hst.away {p b : Nat} {dep now last : Int} (h : Hst w p b G dep now last) : Away w (PB p b) G := fun s hs => ⟨(h.eds s hs).1.row, (h.eds s hs).2.row⟩
theorem away_add {dep now : Int} {L G' : List StP} (ha : AddTo L dep now G') (h : Away w Q L) : Away w Q G' := by
  rcases ha with ⟨_, rfl⟩ | ⟨_, r0, p1, rest, _, rfl⟩
  · exact h
  · intro s hs
    rw [← keep_below] at hs
    obtain ⟨x, hx, rfl⟩ := List.mem_map.1 hs
    unfold zfix
    split
    · exact ⟨.inl rfl, .inl rfl⟩
    · exact h x ((keep_sub L p1).subset hx)
end
section
variable {w : World} {p b : Nat} {G : List StP} {dep now last : Int}
/-- what a call leaves, and where the runs lie -/
def LeftA (w : World) (p b : Nat) (G : List StP) (dep last : Int) (e : Ending) (w' : World) : Prop := (∃ v, e = .returned v) ∧ ∃ G' now' last', Hx w' p b G' dep now' last' ∧ last' ≤ last + 1 ∧ Tch (PB p b) w w' ∧
  ∀ Q : Nat → Prop, (∀ k, PB p b k → Q k) → (∀ k, Q k → k < w.heap.size) → Away w Q G → Away w' Q G'
theorem leftA_none (h : Hx w p b G dep now last) {v : Value} {w' : World} (hb : Below w.heap.size w w') : LeftA w p b G dep last (.returned v) w' :=
  ⟨⟨_, rfl⟩, G, now, last, h.fresh hb, by omega, Tch.fresh hb, fun _ _ _ ha => ha.fresh hb⟩
theorem leftA_same (h : Hx w p b G dep now last) {now' a : Int} {S : List UInt8} {l : List RunP} {X : List UInt8} {m : List RunP} (hi : InvS G now' last dep) {e : Ending} {w' : World} (hg : GivesU w p b G dep last now' a S l X m e w') : LeftA w p b G dep last e w' := by
  obtain ⟨_, _, _, _, rfl, h1, _, _, h2⟩ := hg
  have ht : Tch (PB p b) w w' := h2.more fun _ e => Or.inl e
  exact ⟨⟨_, rfl⟩, G, now', last, ⟨h1, hi, h.hd, h.hl, h.eds⟩, by omega, ht, fun _ hQ _ ha => ha.tch (ht.more hQ)⟩
theorem undo_leftA (h : Hx w p b G dep now last) : Calls Try.prog 12 #[.pointer (some ⟨p, 0, none⟩)] w (LeftA w p b G dep last) := by
  obtain ⟨s, _, _, hu⟩ := h.undo
  rcases hu with ⟨_, hc⟩ | ⟨_, _, hi, hc⟩
  · refine hc.mono ?_
    rintro e w' ⟨rfl, hb⟩
    exact leftA_none h hb
  · exact hc.mono fun _ _ hg => leftA_same h hi hg
theorem redo_leftA (h : Hx w p b G dep now last) : Calls Try.prog 15 #[.pointer (some ⟨p, 0, none⟩)] w (LeftA w p b G dep last) := by
  rcases h.redo with ⟨_, hc⟩ | ⟨s, _, _, _, hi, hc⟩
  · refine hc.mono ?_
    rintro e w' ⟨rfl, hb⟩
    exact leftA_none h hb
  · exact hc.mono fun _ _ hg => leftA_same h hi hg
theorem add_leftA (h : Hx w p b G dep now last) (hlt : last < 1000) {a : Int} {S : List UInt8} {A1 : Option Addr} {l : List RunP} {c1 : Nat} {X : List UInt8} {B1 : Option Addr} {m : List RunP} {d : Nat} (hS : Txu w A1 S l) (hX : Txu w B1 X m) (hl : l.length ≤ 5000) (hm : m.length ≤ 5000) :
    Calls Try.prog 17 #[.pointer (some ⟨p, 0, none⟩), .agg #[.int .i64 a, .string ⟨S.toArray⟩, .slice A1 l.length c1, .string ⟨X.toArray⟩, .slice B1 m.length d]] w (LeftA w p b G dep last) := by
  by_cases hg : goodE a S l X m = true
  · refine (h.add hlt hS hX hg hl hm).mono ?_
    rintro e w' ⟨A2, c2, B2, d2, G', rfl, h2, ht, ha, r1, r2⟩
    refine ⟨⟨_, rfl⟩, G', last + 1, last + 1, h2, by omega, ht, fun Q hQ hlow haw => away_add ha fun s hs => ?_⟩
    rcases List.mem_append.1 hs with hs | hs
    · exact haw.tch (ht.more hQ) s hs
    · rw [List.mem_singleton.1 hs]
      exact ⟨RowO.of_rowG r1 (fun k hk hq => by have := hlow k hq; omega), RowO.of_rowG r2 (fun k hk hq => by have := hlow k hq; omega)⟩
  · refine (hiAdd_bad h.h hS hX (by simpa using hg)).mono ?_
    rintro e w' ⟨rfl, hb⟩
    exact leftA_none h hb
end

set_option maxRecDepth 100000 in
set_option maxHeartbeats 4000000 in
theorem doesA_any {w : World} {p b : Nat} {G : List StP} {dep now last : Int} (h : Hx w p b G dep now last) (hlt : last < 1000) (kind : Int) (hk : 0 ≤ kind ∧ kind ≤ 255) {a : Int} {S : List UInt8} {A1 : Option Addr} {l : List RunP} {c1 : Nat} {X : List UInt8} {B1 : Option Addr} {m : List RunP} {d : Nat} (f : Bool) (hS : Txu w A1 S l) (hX : Txu w B1 X m) (hl : l.length ≤ 5000) (hm : m.length ≤ 5000) :
    Calls Try.prog 25 #[.pointer (some ⟨p, 0, none⟩), .agg #[.int .u8 kind, .int .i64 a, .string ⟨S.toArray⟩, .slice A1 l.length c1, .string ⟨X.toArray⟩, .slice B1 m.length d, .bool f]] w (LeftA w p b G dep last) := by
  have hb0 : Below w.heap.size w (w.alloc (.cells #[.int .u8 kind, .int .i64 a, .string ⟨S.toArray⟩, .slice A1 l.length c1, .string ⟨X.toArray⟩, .slice B1 m.length d, .bool f] 36)) := (Below.refl _ w).alloc (Nat.le_refl _) _
  have K : Hid (Hx (w.alloc (.cells #[.int .u8 kind, .int .i64 a, .string ⟨S.toArray⟩, .slice A1 l.length c1, .string ⟨X.toArray⟩, .slice B1 m.length d, .bool f] 36)) p b G dep now last ∧ Txu (w.alloc (.cells #[.int .u8 kind, .int .i64 a, .string ⟨S.toArray⟩, .slice A1 l.length c1, .string ⟨X.toArray⟩, .slice B1 m.length d, .bool f] 36)) A1 S l ∧ Txu (w.alloc (.cells #[.int .u8 kind, .int .i64 a, .string ⟨S.toArray⟩, .slice A1 l.length c1, .string ⟨X.toArray⟩, .slice B1 m.length d, .bool f] 36)) B1 X m) :=
    Lib.hid ⟨h.fresh hb0, grow_txu hS _ hb0, grow_txu hX _ hb0⟩
  have done : Hid (∀ e w', LeftA (w.alloc (.cells #[.int .u8 kind, .int .i64 a, .string ⟨S.toArray⟩, .slice A1 l.length c1, .string ⟨X.toArray⟩, .slice B1 m.length d, .bool f] 36)) p b G dep last e w' → LeftA w p b G dep last (.returned (.tuple #[])) w') := by
    show ∀ e w', _
    rintro e w' ⟨_, G', now', last', h1, h2, h3, h4⟩
    exact ⟨⟨_, rfl⟩, G', now', last', h1, h2, (Tch.fresh hb0).trans h3, fun Q hQ hlow ha => h4 Q hQ (fun k hk => Nat.lt_of_lt_of_le (hlow k hk) hb0.size) (ha.fresh hb0)⟩
  clear h hS hX hb0
  by_cases k2 : (kind % 4 == 2) = true
  · go_enter Try.func25, Try.ntmps25
    go_wp2_with (go_at_call 12; refine (undo_leftA K.out.1).mono ?_; intro e w' hL; have HL := Lib.hid (done.out _ _ hL); obtain ⟨⟨v, rfl⟩, _⟩ := hL)
    go_end0
    exact HL.out
  · replace k2 : (kind % 4 == 2) = false := by simpa using k2
    by_cases k3 : (kind % 4 == 3) = true
    · go_enter Try.func25, Try.ntmps25
      go_wp2_with (go_at_call 15; refine (redo_leftA K.out.1).mono ?_; intro e w' hL; have HL := Lib.hid (done.out _ _ hL); obtain ⟨⟨v, rfl⟩, _⟩ := hL)
      go_end0
      exact HL.out
    · replace k3 : (kind % 4 == 3) = false := by simpa using k3
      go_enter Try.func25, Try.ntmps25
      go_wp2_with (go_at_call 17; refine (add_leftA K.out.1 hlt K.out.2.1 K.out.2.2 hl hm).mono ?_; intro e w' hL; have HL := Lib.hid (done.out _ _ hL); obtain ⟨⟨v, rfl⟩, _⟩ := hL)
      go_end0
      exact HL.out

/-- blocks of two sorts -/
theorem blk_not_map {w : World} {g T b : Nat} {cs : Array Value} {L : List StP} (h : Blk w g T cs) (hm : MapS w b L) : g ≠ b := by
  rintro rfl
  obtain ⟨es, clock, hb, _⟩ := hm
  unfold Blk at h
  rw [h] at hb
  cases hb
theorem blk_sort {w : World} {g T T' : Nat} {cs cs' : Array Value} (h : Blk w g T cs) (h' : Blk w g T' cs') : T = T' := by
  unfold Blk at h h'
  rw [h] at h'
  injection h' with h'
  injection h'
theorem own_sort {w : World} {base e size n k : Nat} {v : Value} {xs : List Value} (h : w.ownsRow base e size v n xs) (hk : v.ownBlock = some k) : ∃ cs, Blk w k e cs := by
  rcases h.2 with ⟨rfl, _⟩ | ⟨g1, c1, cur1, rfl, _, hh1, _⟩
  · simp [Value.ownBlock] at hk
  · simp [Value.ownBlock] at hk
    subst hk
    exact ⟨cur1, hh1⟩
theorem own_tchK {P : Nat → Prop} {w w' : World} {base e size n : Nat} {v : Value} {xs : List Value} (h : w.ownsRow base e size v n xs) (hc : Tch P w w') (hP : ∀ k, v.ownBlock = some k → ¬ P k) : w'.ownsRow base e size v n xs := by
  refine ⟨h.1, ?_⟩
  rcases h.2 with hn | ⟨g, cap, cur, e1, hb, hg, rest⟩
  · exact .inl hn
  · refine .inr ⟨g, cap, cur, e1, hb, (hc.block g (Array.getElem?_eq_some_iff.1 hg).1 (hP g (by rw [e1]; rfl))).trans hg, rest⟩
/-- a row of one sort, while a row of another grows -/
theorem own_two {w w' : World} {base e size n base' e' size' n' : Nat} {v v' : Value} {xs xs' : List Value} (h : w.ownsRow base e size v n xs) (hc : Tch (fun k => v'.ownBlock = some k) w w') (h' : w.ownsRow base' e' size' v' n' xs') (hne : e ≠ e') : w'.ownsRow base e size v n xs :=
  own_tchK h hc fun k hk hk' => by
    obtain ⟨cs, hb⟩ := own_sort h hk
    obtain ⟨cs', hb'⟩ := own_sort h' hk'
    exact hne (blk_sort hb hb')
/-- a row of no history's sort, while a history is changed -/
theorem own_hst {w w' : World} {base e size n p b : Nat} {v : Value} {xs : List Value} {G : List StP} {dep now last : Int} (h : w.ownsRow base e size v n xs) (hc : Tch (PB p b) w w') (hh : Hst w p b G dep now last) (hne : e ≠ 67) : w'.ownsRow base e size v n xs :=
  own_tchK h hc fun k hk hp => by
    obtain ⟨cs, hb⟩ := own_sort h hk
    rcases hp with rfl | rfl
    · exact hne (blk_sort hb hh.blk)
    · exact blk_not_map hb hh.map rfl
theorem RowO.off {P : Nat → Prop} {w : World} {A : Option Addr} {l : List RunP} {p b : Nat} {G : List StP} {dep now last : Int} (h : RowO w P A (flatR l)) (hh : Hst w p b G dep now last) : RowO w (fun k => P k ∨ PB p b k) A (flatR l) := by
  rcases l with _ | ⟨r, l⟩
  · exact .inl rfl
  rcases h with h | ⟨ad, e, hl, hn, hc⟩
  · exact .inl h
  · have h1 := rowN_ty (.inr ⟨ad, e, hl, hc⟩ : Row w w.heap.size A (flatR (r :: l))) (Nat.le_refl _) hh.blk (no_labH _ _ _ _)
    have h0 : w.cell? (ad.add 0) = some (.int .u64 (r.1 : Nat)) := hc 0 _ rfl
    refine .inr ⟨ad, e, hl, fun hp => ?_, hc⟩
    rcases hp with hp | hp | hp
    · exact hn hp
    · rcases h1 with h1 | ⟨ad', e', hne, _, _⟩
      · simp [flatR] at h1
      · rw [e] at e'
        injection e' with e'
        subst e'
        exact hne hp
    · obtain ⟨es, clock, hb, _⟩ := hh.map
      have ha : ad.add 0 = ad := rfl
      rw [ha] at h0
      unfold World.cell? at h0
      rw [hp, hb] at h0
      cases h0
/-- another history is changed -/
theorem Hx.other {w w' : World} {p' b' p b : Nat} {G' G : List StP} {dep' now' last' dep now last : Int} (h : Hx w p' b' G' dep' now' last') (c : Hst w p b G dep now last) (hne : p' ≠ p ∧ b' ≠ b) (hc : Tch (PB p b) w w') : Hx w' p' b' G' dep' now' last' := by
  have h1 : ¬ PB p b p' := fun hp => hp.elim hne.1 (blk_not_map h.h.blk c.map)
  have h2 : ¬ PB p b b' := fun hp => hp.elim (fun e => blk_not_map c.blk h.h.map e.symm) hne.2
  have hw := hc.more (Q := fun k => PB p' b' k ∨ PB p b k) fun _ e => Or.inr e
  refine ⟨⟨h.h.blk.tch hc h1, h.h.map.keep (hc.block b' h.h.map.lt h2), fun s hs => ?_⟩, h.inv, h.hd, h.hl, h.eds⟩
  have ht := h.h.eds s hs
  exact ⟨⟨ht.1.hS, ht.1.hf, ht.1.hl, ((ht.1.row.off c).tch hw).sub fun _ _ e => Or.inl e⟩, ⟨ht.2.hS, ht.2.hf, ht.2.hl, ((ht.2.row.off c).tch hw).sub fun _ _ e => Or.inl e⟩⟩
/-- a row grows -/
theorem Hx.apart {w w' : World} {p b base e size n : Nat} {v : Value} {xs : List Value} {G : List StP} {dep now last : Int} (h : Hx w p b G dep now last) (hc : Tch (fun k => v.ownBlock = some k) w w') (ho : w.ownsRow base e size v n xs) (he : e ≠ 67) (ha : Away w (fun k => v.ownBlock = some k) G) : Hx w' p b G dep now last := by
  have h1 : ∀ k, PB p b k → ¬ v.ownBlock = some k := fun k hk hv => by
    obtain ⟨cs, hb⟩ := own_sort ho hv
    rcases hk with rfl | rfl
    · exact he (blk_sort hb h.h.blk)
    · exact blk_not_map hb h.h.map rfl
  have hw := hc.more (Q := fun k => PB p b k ∨ v.ownBlock = some k) fun _ e => Or.inr e
  refine ⟨⟨h.h.blk.tch hc (h1 p (Or.inl rfl)), h.h.map.keep (hc.block b h.h.map.lt (h1 b (Or.inr rfl))), fun s hs => ?_⟩, h.inv, h.hd, h.hl, h.eds⟩
  have ht := h.h.eds s hs
  exact ⟨⟨ht.1.hS, ht.1.hf, ht.1.hl, ((ht.1.row.or (ha s hs).1).tch hw).sub fun _ _ e => Or.inl e⟩, ⟨ht.2.hS, ht.2.hf, ht.2.hl, ((ht.2.row.or (ha s hs).2).tch hw).sub fun _ _ e => Or.inl e⟩⟩
/-- one element more, and where the row lies -/
theorem wpList_pushT {P : Program} {ops : Array Oper} {rest : List Oper} {o : Oper} {a : Act} {Q : Exit → Act → World → Prop} {w0 : World} (hgd : o.guard = none) (s x : Operand) (t : TypeId)
    (ho : o.op = .call { callee := .builtin .append, args := #[s, x], argTypes := #[t, t] })
    (base : Nat) (e : TypeId) (z : Value) (size bytes : Nat) (E : Elt P t e z size bytes) (bt : TypeId)
    (v : Value) (n : Nat) (xs : List Value) (hs : a.eval s = v) (hown : w0.ownsRow base e size v n xs)
    (us : List Value) (gx : Nat) (hgx : gx = w0.heap.size) (hx : a.eval x = .slice (some ⟨gx, 0, none⟩) 1 1) (hl : us.length = size) (hu : ∀ u ∈ us, u.oneCell' = true)
    (h63 : n + 1 ≤ maxLen) (hbytes : (n + 1) * bytes ≤ 140737488355328) (hbase : base ≤ w0.heap.size)
    (h : ∀ v' w', w'.ownsRow base e size v' (n + 1) (xs ++ us) → Tch (fun k => v.ownBlock = some k) w0 w' → (∀ k, v'.ownBlock = some k → v.ownBlock = some k ∨ w0.heap.size ≤ k) → wpList P ops Q rest (a.put o.dst v') w') : wpList P ops Q (o :: rest) a (w0.alloc (.cells us.toArray bt)) := by
  subst hgx
  obtain ⟨i, hi, hz, h1, h2⟩ := info_parts E.hi
  have ho' := hown.alloc (.cells us.toArray bt)
  have hb' : Below base w0 (w0.alloc (.cells us.toArray bt)) := (Below.refl base w0).alloc hbase _
  have hc0 : Tch (fun k => v.ownBlock = some k) w0 (w0.alloc (.cells us.toArray bt)) := Tch.fresh ((Below.refl _ w0).alloc (Nat.le_refl _) _)
  refine wpList_append_own_at _ hgd s x t ho base e i z size bytes E.ht hi hz h1 h2 E.hz E.pos v n xs hs ho' ⟨w0.heap.size, 0, none⟩ 1 1 us hx (by simp [hl]) ?_ hu h63 hbytes (Nat.le_trans hbase hb'.size) ?_
  · intro j y hj
    have hadd : (⟨w0.heap.size, 0, none⟩ : Addr).add j = ⟨w0.heap.size, j, none⟩ := by unfold Addr.add; split <;> simp_all
    rw [hadd, cell_of_row _ _ j us.toArray bt (0, 0) (heap_alloc_new w0 _)]
    simpa using hj
  · intro v' w' h3 h4 _ h5
    refine h v' w' h3 (hc0.trans ⟨h4.os, h4.tape, h4.output, h4.size, fun k hk hn => h4.block k hk (fun e => hn e.symm)⟩) fun k hk => ?_
    rcases h5 with h5 | h5
    · exact .inl (h5 ▸ hk)
    · rw [h5] at hk
      injection hk with hk
      exact .inr (by rw [← hk]; exact hb'.size |> fun h => by simp)
end Go.Proofs.Ytfeaffabminpfaa

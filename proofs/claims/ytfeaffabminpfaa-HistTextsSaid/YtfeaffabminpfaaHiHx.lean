/-
  A history as the laws see it: its memory, its list, what each call leaves: layer 8.
-/
import Derived.Test.YtfeaffabminpfaaHiAdd
import Derived.Test.YtfeaffabminpfaaHiNew
import Derived.Test.YtfeaffabminpfaaHiRedo
namespace Go.Proofs.Ytfeaffabminpfaa
open Go.RowKit

structure Hx (w : World) (p b : Nat) (G : List StP) (dep now last : Int) : Prop where
  h : Hst w p b G dep now last
  inv : InvS G now last dep
  hd : dep ≤ 64
  hl : last ≤ 1000
  eds : ∀ s ∈ G, s.e.l.length ≤ 5000 ∧ s.e.m.length ≤ 5000
section
variable {w w' : World} {p b : Nat} {G : List StP} {dep now last : Int}
theorem Hx.fresh (h : Hx w p b G dep now last) (hb : Below w.heap.size w w') : Hx w' p b G dep now last := ⟨h.h.fresh hb, h.inv, h.hd, h.hl, h.eds⟩
theorem hx_new {dep : Int} (hd : 1 ≤ dep ∧ dep ≤ 64) (h : Hst w p b [firstS] dep 0 0) : Hx w p b [firstS] dep 0 0 :=
  ⟨h, inv_new hd, hd.2, by omega, fun s hs => by rw [List.mem_singleton.1 hs]; exact ⟨Nat.zero_le _, Nat.zero_le _⟩⟩
theorem max_child (hu : UpS G) (now : Int) : (∀ s ∈ G, s.up ≠ now) ∨ ∃ s ∈ G, s.up = now ∧ ∀ t ∈ G, t.up = now → t.n ≤ s.n := by
  induction G with
  | nil => exact Or.inl (by simp)
  | cons x G ih =>
    obtain ⟨h1, h2⟩ := List.pairwise_cons.1 hu
    rcases ih h2 with h | ⟨s, hs, hsu, hm⟩
    · by_cases hx : x.up = now
      · refine Or.inr ⟨x, List.mem_cons_self .., hx, fun t ht htu => ?_⟩
        rcases List.mem_cons.1 ht with rfl | ht
        · exact Int.le_refl _
        · exact absurd htu (h t ht)
      · refine Or.inl fun s hs => ?_
        rcases List.mem_cons.1 hs with rfl | hs
        · exact hx
        · exact h s hs
    · refine Or.inr ⟨s, List.mem_cons_of_mem _ hs, hsu, fun t ht htu => ?_⟩
      rcases List.mem_cons.1 ht with rfl | ht
      · have := h1 s hs; omega
      · exact hm t ht htu
theorem Hx.undo (h : Hx w p b G dep now last) : ∃ s ∈ G, s.n = now ∧
    ((s.up = -1 ∧ Calls Try.prog 12 #[.pointer (some ⟨p, 0, none⟩)] w (NoneE w 6)) ∨
     (0 ≤ s.up ∧ s.up < s.n ∧ InvS G s.up last dep ∧ Calls Try.prog 12 #[.pointer (some ⟨p, 0, none⟩)] w (GivesU w p b G dep last s.up s.e.a s.e.X s.e.m s.e.S s.e.l))) := by
  obtain ⟨s, hs, rfl⟩ := h.inv.hnow
  have hlow := h.inv.hlow s hs
  have hl := h.hl
  have hf := find_self h.inv.hup hs
  refine ⟨s, hs, rfl, ?_⟩
  rcases h.inv.kid hs with hu | ⟨h0, hlt, o, ho, e⟩
  · exact Or.inl ⟨hu, hiUndo_none h.h (by omega) (by rw [hf]; exact hu)⟩
  · have he := h.eds s hs
    refine Or.inr ⟨h0, hlt, { h.inv with hnow := ⟨o, ho, e⟩ }, ?_⟩
    exact hiUndo_some (n1 := s.n) (up := s.up) (a := s.e.a) (S := s.e.S) (A1 := s.e.A) (l := s.e.l) (c1 := s.e.c) (X := s.e.X) (B1 := s.e.B) (m := s.e.m) (d := s.e.d) h.h (by omega) hs hf h0 (by omega) (by omega)
theorem Hx.redo (h : Hx w p b G dep now last) :
    ((∀ s ∈ G, s.up ≠ now) ∧ Calls Try.prog 15 #[.pointer (some ⟨p, 0, none⟩)] w (NoneE w 6)) ∨
    (∃ s ∈ G, s.up = now ∧ (∀ t ∈ G, t.up = now → t.n ≤ s.n) ∧ InvS G s.n last dep ∧ Calls Try.prog 15 #[.pointer (some ⟨p, 0, none⟩)] w (GivesU w p b G dep last s.n s.e.a s.e.S s.e.l s.e.X s.e.m)) := by
  rcases max_child h.inv.hup now with hn | ⟨s, hs, hu, hm⟩
  · exact Or.inl ⟨hn, hiRedo_none h.h h.inv.hup hn⟩
  · have he := h.eds s hs
    have hlow := h.inv.hlow s hs
    have hl := h.hl
    refine Or.inr ⟨s, hs, hu, hm, { h.inv with hnow := ⟨s, hs, rfl⟩ }, ?_⟩
    exact hiRedo_some (n1 := s.n) (up := s.up) (a := s.e.a) (S := s.e.S) (A1 := s.e.A) (l := s.e.l) (c1 := s.e.c) (X := s.e.X) (B1 := s.e.B) (m := s.e.m) (d := s.e.d) h.h h.inv.hup hs (by omega) hu hm (by omega) (by omega)
theorem addTo_inv (h : InvS G now last dep) (hd : dep ≤ 64) {s : StP} (hn : s.n = last + 1) (hu : s.up = now) {G' : List StP} (ha : AddTo (G ++ [s]) dep (last + 1) G') : InvS G' (last + 1) (last + 1) dep := by
  have hlen : (G ++ [s]).length = G.length + 1 := by simp
  have hG := h.hlen
  rcases ha with ⟨hl, rfl⟩ | ⟨hl, r0, p1, rest, hp, rfl⟩
  · have := h.add hn hu (by omega)
    rw [hn] at this
    exact this
  · have := h.more hn hu hd
    rw [hn] at this
    exact this.forget h.hdep.1 (by omega) hp
theorem addTo_eds {L G' : List StP} (ha : AddTo L dep now G') (h : ∀ s ∈ L, s.e.l.length ≤ 5000 ∧ s.e.m.length ≤ 5000) : ∀ s ∈ G', s.e.l.length ≤ 5000 ∧ s.e.m.length ≤ 5000 := by
  rcases ha with ⟨_, rfl⟩ | ⟨_, r0, p1, rest, _, rfl⟩
  · exact h
  · intro s hs
    rw [← keep_below] at hs
    obtain ⟨x, hx, rfl⟩ := List.mem_map.1 hs
    unfold zfix
    split
    · exact ⟨Nat.zero_le _, Nat.zero_le _⟩
    · exact h x ((keep_sub L p1).subset hx)
theorem Hx.add (h : Hx w p b G dep now last) (hlt : last < 1000) {a : Int} {S : List UInt8} {A1 : Option Addr} {l : List RunP} {c1 : Nat} {X : List UInt8} {B1 : Option Addr} {m : List RunP} {d : Nat} (hS : Txu w A1 S l) (hX : Txu w B1 X m) (hg : goodE a S l X m = true) (hl : l.length ≤ 5000) (hm : m.length ≤ 5000) :
    Calls Try.prog 17 #[.pointer (some ⟨p, 0, none⟩), .agg #[.int .i64 a, .string ⟨S.toArray⟩, .slice A1 l.length c1, .string ⟨X.toArray⟩, .slice B1 m.length d]] w fun e w' => ∃ A2 c2 B2 d2 G', e = .returned (.tuple #[.int .i64 (last + 1), .int .i64 0]) ∧ Hx w' p b G' dep (last + 1) (last + 1) ∧ Tch (PB p b) w w' ∧ AddTo (G ++ [⟨last + 1, now, ⟨a, S, A2, l, c2, X, B2, m, d2⟩⟩]) dep (last + 1) G' ∧ RowG w' w.heap.size A2 (flatR l) ∧ RowG w' w.heap.size B2 (flatR m) := by
  refine (hiAdd_any h.h h.inv h.hd (by omega) hS hX hg (by omega) (by omega)).mono ?_
  rintro e w' ⟨A2, c2, B2, d2, G', rfl, h1, h2, h3, h4⟩
  refine ⟨A2, c2, B2, d2, G', rfl, ⟨h1, addTo_inv h.inv h.hd rfl rfl h3, h.hd, by omega, addTo_eds h3 fun s hs => ?_⟩, h2, h3, h4⟩
  rcases List.mem_append.1 hs with hs | hs
  · exact h.eds s hs
  · rw [List.mem_singleton.1 hs]; exact ⟨hl, hm⟩
end
end Go.Proofs.Ytfeaffabminpfaa

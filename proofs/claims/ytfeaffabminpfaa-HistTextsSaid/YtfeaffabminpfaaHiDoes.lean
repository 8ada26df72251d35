/-
  A call of whatever kind: layer 8.
-/
import Derived.Test.YtfeaffabminpfaaHiHx
import Derived.Test.YtfeaffabminpfaaHsOpen
namespace Go.Proofs.Ytfeaffabminpfaa
open Go.RowKit

/-- a call as it lies in a list, for good -/
structure ActAt (w : World) (x : Addr) (r : ActE) : Prop where
  d0 : w.cell? x = some (.int .u8 r.kind)
  d1 : w.cell? ⟨x.block, x.off + 1, none⟩ = some (.int .i64 r.e.a)
  d2 : w.cell? ⟨x.block, x.off + 2, none⟩ = some (.string ⟨r.e.S.toArray⟩)
  d3 : w.cell? ⟨x.block, x.off + 3, none⟩ = some (.slice r.e.A r.e.l.length r.e.c)
  d4 : w.cell? ⟨x.block, x.off + 4, none⟩ = some (.string ⟨r.e.X.toArray⟩)
  d5 : w.cell? ⟨x.block, x.off + 5, none⟩ = some (.slice r.e.B r.e.m.length r.e.d)
  d6 : w.cell? ⟨x.block, x.off + 6, none⟩ = some (.bool r.fork)
theorem actE_grow {w : World} {A : Option Addr} {acs : List ActE} (h : Row w w.heap.size A (flatE acs)) {k : Nat} (hk : k < acs.length) : ∃ ad, A = some ad ∧ Grow w (fun w' => ActAt w' (ad.add (k * 7)) acs[k]) := by
  obtain ⟨ad, e, _⟩ := actE_at h hk
  refine ⟨ad, e, fun w' hb => ?_⟩
  obtain ⟨ad', e', _, h0, h1, h2, h3, h4, h5, h6⟩ := actE_at (h.below hb) hk
  rw [e] at e'
  injection e' with e'
  subst e'
  exact ⟨h0, h1, h2, h3, h4, h5, h6⟩
section
variable {w : World} {p b : Nat} {G : List StP} {dep now last : Int}
/-- a call leaves a history -/
def Left (w : World) (p b : Nat) (dep last : Int) (e : Ending) (w' : World) : Prop := (∃ v, e = .returned v) ∧ ∃ G' now' last', Hx w' p b G' dep now' last' ∧ last' ≤ last + 1 ∧ Tch (PB p b) w w'
theorem GivesU.left {w0 : World} {p b : Nat} {G : List StP} {dep now last now' a : Int} {S : List UInt8} {l : List RunP} {X : List UInt8} {m : List RunP} (h : Hx w0 p b G dep now last) (hi : InvS G now' last dep) {e : Ending} {w' : World} (hg : GivesU w0 p b G dep last now' a S l X m e w') : Hx w' p b G dep now' last ∧ Tch (PB p b) w0 w' := by
  obtain ⟨_, _, _, _, _, h1, _, _, h2⟩ := hg
  exact ⟨⟨h1, hi, h.hd, h.hl, h.eds⟩, h2.more fun _ e => Or.inl e⟩
theorem undo_left (h : Hx w p b G dep now last) : Calls Try.prog 12 #[.pointer (some ⟨p, 0, none⟩)] w (Left w p b dep last) := by
  obtain ⟨s, hs, hn, hu⟩ := h.undo
  rcases hu with ⟨_, hc⟩ | ⟨_, _, hi, hc⟩
  · refine hc.mono ?_
    rintro e w' ⟨rfl, hb⟩
    exact ⟨⟨_, rfl⟩, G, now, last, h.fresh hb, by omega, Tch.fresh hb⟩
  · refine hc.mono ?_
    intro e w' hg
    have h2 := GivesU.left h hi hg
    obtain ⟨_, _, _, _, rfl, _⟩ := hg
    exact ⟨⟨_, rfl⟩, G, s.up, last, h2.1, by omega, h2.2⟩
theorem redo_left (h : Hx w p b G dep now last) : Calls Try.prog 15 #[.pointer (some ⟨p, 0, none⟩)] w (Left w p b dep last) := by
  rcases h.redo with ⟨_, hc⟩ | ⟨s, hs, _, _, hi, hc⟩
  · refine hc.mono ?_
    rintro e w' ⟨rfl, hb⟩
    exact ⟨⟨_, rfl⟩, G, now, last, h.fresh hb, by omega, Tch.fresh hb⟩
  · refine hc.mono ?_
    intro e w' hg
    have h2 := GivesU.left h hi hg
    obtain ⟨_, _, _, _, rfl, _⟩ := hg
    exact ⟨⟨_, rfl⟩, G, s.n, last, h2.1, by omega, h2.2⟩
theorem add_left (h : Hx w p b G dep now last) (hlt : last < 1000) {a : Int} {S : List UInt8} {A1 : Option Addr} {l : List RunP} {c1 : Nat} {X : List UInt8} {B1 : Option Addr} {m : List RunP} {d : Nat} (hS : Txu w A1 S l) (hX : Txu w B1 X m) (hl : l.length ≤ 5000) (hm : m.length ≤ 5000) :
    Calls Try.prog 17 #[.pointer (some ⟨p, 0, none⟩), .agg #[.int .i64 a, .string ⟨S.toArray⟩, .slice A1 l.length c1, .string ⟨X.toArray⟩, .slice B1 m.length d]] w (Left w p b dep last) := by
  by_cases hg : goodE a S l X m = true
  · refine (h.add hlt hS hX hg hl hm).mono ?_
    rintro e w' ⟨_, _, _, _, G', rfl, h2, ht, _, _⟩
    exact ⟨⟨_, rfl⟩, G', last + 1, last + 1, h2, by omega, ht⟩
  · refine (hiAdd_bad h.h hS hX (by simpa using hg)).mono ?_
    rintro e w' ⟨rfl, hb⟩
    exact ⟨⟨_, rfl⟩, G, now, last, h.fresh hb, by omega, Tch.fresh hb⟩
end

set_option maxRecDepth 100000 in
set_option maxHeartbeats 4000000 in
theorem does_any {w : World} {p b : Nat} {G : List StP} {dep now last : Int} (h : Hx w p b G dep now last) (hlt : last < 1000) (kind : Int) (hk : 0 ≤ kind ∧ kind ≤ 255) {a : Int} {S : List UInt8} {A1 : Option Addr} {l : List RunP} {c1 : Nat} {X : List UInt8} {B1 : Option Addr} {m : List RunP} {d : Nat} (f : Bool) (hS : Txu w A1 S l) (hX : Txu w B1 X m) (hl : l.length ≤ 5000) (hm : m.length ≤ 5000) :
    Calls Try.prog 25 #[.pointer (some ⟨p, 0, none⟩), .agg #[.int .u8 kind, .int .i64 a, .string ⟨S.toArray⟩, .slice A1 l.length c1, .string ⟨X.toArray⟩, .slice B1 m.length d, .bool f]] w (Left w p b dep last) := by
  have hb0 : Below w.heap.size w (w.alloc (.cells #[.int .u8 kind, .int .i64 a, .string ⟨S.toArray⟩, .slice A1 l.length c1, .string ⟨X.toArray⟩, .slice B1 m.length d, .bool f] 36)) := (Below.refl _ w).alloc (Nat.le_refl _) _
  have K : Hid (Hx (w.alloc (.cells #[.int .u8 kind, .int .i64 a, .string ⟨S.toArray⟩, .slice A1 l.length c1, .string ⟨X.toArray⟩, .slice B1 m.length d, .bool f] 36)) p b G dep now last ∧ Txu (w.alloc (.cells #[.int .u8 kind, .int .i64 a, .string ⟨S.toArray⟩, .slice A1 l.length c1, .string ⟨X.toArray⟩, .slice B1 m.length d, .bool f] 36)) A1 S l ∧ Txu (w.alloc (.cells #[.int .u8 kind, .int .i64 a, .string ⟨S.toArray⟩, .slice A1 l.length c1, .string ⟨X.toArray⟩, .slice B1 m.length d, .bool f] 36)) B1 X m) :=
    Lib.hid ⟨h.fresh hb0, grow_txu hS _ hb0, grow_txu hX _ hb0⟩
  have done : Hid (∀ e w', Left (w.alloc (.cells #[.int .u8 kind, .int .i64 a, .string ⟨S.toArray⟩, .slice A1 l.length c1, .string ⟨X.toArray⟩, .slice B1 m.length d, .bool f] 36)) p b dep last e w' → Left w p b dep last (.returned (.tuple #[])) w') := by
    show ∀ e w', _
    rintro e w' ⟨_, G', now', last', h1, h2, h3⟩
    exact ⟨⟨_, rfl⟩, G', now', last', h1, h2, (Tch.fresh hb0).trans h3⟩
  clear h hS hX hb0
  by_cases k2 : (kind % 4 == 2) = true
  · go_enter Try.func25, Try.ntmps25
    go_wp2_with (go_at_call 12; refine (undo_left K.out.1).mono ?_; intro e w' hL; have HL := Lib.hid (done.out _ _ hL); obtain ⟨⟨v, rfl⟩, _⟩ := hL)
    go_end0
    exact HL.out
  · replace k2 : (kind % 4 == 2) = false := by simpa using k2
    by_cases k3 : (kind % 4 == 3) = true
    · go_enter Try.func25, Try.ntmps25
      go_wp2_with (go_at_call 15; refine (redo_left K.out.1).mono ?_; intro e w' hL; have HL := Lib.hid (done.out _ _ hL); obtain ⟨⟨v, rfl⟩, _⟩ := hL)
      go_end0
      exact HL.out
    · replace k3 : (kind % 4 == 3) = false := by simpa using k3
      go_enter Try.func25, Try.ntmps25
      go_wp2_with (go_at_call 17; refine (add_left K.out.1 hlt K.out.2.1 K.out.2.2 hl hm).mono ?_; intro e w' hL; have HL := Lib.hid (done.out _ _ hL); obtain ⟨⟨v, rfl⟩, _⟩ := hL)
      go_end0
      exact HL.out
end Go.Proofs.Ytfeaffabminpfaa

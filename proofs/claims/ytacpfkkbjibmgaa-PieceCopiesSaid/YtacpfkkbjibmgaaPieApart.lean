/-
  A store is as it was where other blocks were written: layer 5.
-/
import Derived.Test.YtacpfkkbjibmgaaPieSays
namespace Go.Proofs.Ytacpfkkbjibmgaa
open Go.RowKit

/-- a store is as it was where other blocks changed, that hold no bytes -/
theorem Sto.chgT {w w' : World} {P : Nat → Prop} {O : Nat → Prop} {g most : Nat} {S : List UInt8} {b : List Nat} (h : Sto w O g most S b) (hc : Chg P w w') (hP : ∀ k, P k → k < w.heap.size → ¬ O k ∧ ∃ T cs, Blk w k T cs ∧ T ≠ 5) : Sto w' O g most S b := by
  obtain ⟨⟨vb, vp, bs, ps, h1, h2, h3, h4⟩, h5⟩ := h
  have hO : ∀ k, O k → ¬ P k := fun k hk hp => (hP k hp (h5 k hk)).1 hk
  refine ⟨⟨vb, vp, bs, ps, ⟨h1.blk.chg hc (hO g h1.gP), h1.gP, ?_, own_chg h1.pcs hc (fun k hk => hO k (h1.pP k hk)), h1.pP, h1.ok, h1.max, h1.most4, h1.blen⟩, h2, h3, h4⟩, fun k hk => Nat.lt_of_lt_of_le (h5 k hk) hc.size⟩
  rcases h1.buf with ⟨ho, hp⟩ | ⟨A, e, hrow, hk⟩
  · exact .inl ⟨own_chg ho hc (fun k hk => hO k (hp k hk)), hp⟩
  · have hno : ∀ k, vb.ownBlock = some k → ¬ P k := fun k hkk hp => by
      obtain ⟨h6, _, cs, h7⟩ := hk k hkk
      obtain ⟨_, T, cs', h8, h9⟩ := hP k hp h6
      exact h9 (blk_tags h8 h7)
    refine .inr ⟨A, e, ?_, fun k hkk => ⟨Nat.lt_of_lt_of_le (hk k hkk).1 hc.size, (hk k hkk).2.1, (hk k hkk).2.2.imp fun _ hb => hb.chg hc (hno k hkk)⟩⟩
    rcases hrow with h0 | ⟨ad, ea, hlt, hOk, hcell⟩
    · exact .inl h0
    · refine .inr ⟨ad, ea, Nat.lt_of_lt_of_le hlt hc.size, hOk, fun j u hj => ?_⟩
      rw [← hcell j u hj]
      refine World.cell?_of_block ?_
      rw [add_block]
      exact hc.block _ hlt (hno ad.block (by rw [e, ea]; rfl))
theorem Sto.apart {w w' : World} {O : Nat → Prop} {g most : Nat} {S : List UInt8} {b : List Nat} {r T : Nat} {cs : Array Value} (h : Sto w O g most S b) (hb : Blk w r T cs) (hr : ¬ O r) (hT : T ≠ 5) (hc : Chg (fun k => k = r) w w') : Sto w' O g most S b :=
  h.chgT hc fun k hk _ => by subst hk; exact ⟨hr, T, cs, hb, hT⟩
theorem chg_set2 (w : World) (r : Nat) (i j : Nat) (x y : Value) : Chg (fun k => k = r) w ((w.setCell ⟨r, i, none⟩ x).setCell ⟨r, j, none⟩ y) :=
  ((Chg.refl (fun k => k = r) w).setCell (p := ⟨r, i, none⟩) (fun _ => rfl) x).setCell (p := ⟨r, j, none⟩) (fun _ => rfl) y
theorem chg_set3 (w : World) (r : Nat) (i j l : Nat) (x y z : Value) : Chg (fun k => k = r) w (((w.setCell ⟨r, i, none⟩ x).setCell ⟨r, j, none⟩ y).setCell ⟨r, l, none⟩ z) :=
  (chg_set2 w r i j x y).setCell (p := ⟨r, l, none⟩) (fun _ => rfl) z
end Go.Proofs.Ytacpfkkbjibmgaa

/-
  A store is as it was where other blocks were written: layer 5.
-/
import Derived.Test.YtacpfkkbjibmgaaPieSays
namespace Go.Proofs.Ytacpfkkbjibmgaa
open Go.RowKit

theorem cell_in {w : World} {r T : Nat} {cs : Array Value} (h : Blk w r T cs) {p : Addr} {u : Value} (hp : p.block = r) (hu : w.cell? p = some u) : u ∈ cs.toList := by
  have hh : w.heap[p.block]? = some (.cells cs T (0, 0)) := by rw [hp]; exact h
  unfold World.cell? at hu
  rw [hh] at hu
  dsimp only at hu
  split at hu
  · cases hu
  · obtain ⟨hlt, rfl⟩ := Array.getElem?_eq_some_iff.1 hu
    simp
/-- no bytes lie in this block -/
def NoBytes (cs : Array Value) : Prop := ∀ u ∈ cs.toList, ∀ x : UInt8, u ≠ byt x
theorem Sto.apart {w w' : World} {O : Nat → Prop} {g most : Nat} {S : List UInt8} {b : List Nat} {r T : Nat} {cs : Array Value} (h : Sto w O g most S b) (hb : Blk w r T cs) (hr : ¬ O r) (hn : NoBytes cs) (hc : Chg (fun k => k = r) w w') : Sto w' O g most S b := by
  obtain ⟨⟨vb, vp, bs, ps, h1, h2, h3, h4⟩, h5⟩ := h
  refine ⟨⟨vb, vp, bs, ps, ⟨h1.blk.chg hc (fun e => hr (e ▸ h1.gP)), h1.gP, ?_, own_chg h1.pcs hc (fun k hk e => hr (e ▸ h1.pP k hk)), h1.pP, h1.ok, h1.max, h1.most4, h1.blen⟩, h2, h3, h4⟩, fun k hk => Nat.lt_of_lt_of_le (h5 k hk) hc.size⟩
  rcases h1.buf with ⟨ho, hp⟩ | ⟨A, e, hrow, hk⟩
  · exact .inl ⟨own_chg ho hc (fun k hk e => hr (e ▸ hp k hk)), hp⟩
  · refine .inr ⟨A, e, ?_, fun k hkk => ⟨Nat.lt_of_lt_of_le (hk k hkk).1 hc.size, (hk k hkk).2⟩⟩
    rcases hrow with h0 | ⟨ad, ea, hlt, hO, hcell⟩
    · exact .inl h0
    · refine .inr ⟨ad, ea, Nat.lt_of_lt_of_le hlt hc.size, hO, fun j u hj => ?_⟩
      have hcu := hcell j u hj
      obtain ⟨x, _, hx⟩ := List.mem_map.1 (List.mem_of_getElem? hj)
      have hne : ad.block ≠ r := fun e => hn u (cell_in hb (by rw [add_block]; exact e) hcu) x hx.symm
      rw [← hcu]
      exact World.cell?_of_block (by rw [add_block]; exact hc.block _ hlt hne)
theorem chg_set2 (w : World) (r : Nat) (i j : Nat) (x y : Value) : Chg (fun k => k = r) w ((w.setCell ⟨r, i, none⟩ x).setCell ⟨r, j, none⟩ y) :=
  ((Chg.refl (fun k => k = r) w).setCell (p := ⟨r, i, none⟩) (fun _ => rfl) x).setCell (p := ⟨r, j, none⟩) (fun _ => rfl) y
theorem chg_set3 (w : World) (r : Nat) (i j l : Nat) (x y z : Value) : Chg (fun k => k = r) w (((w.setCell ⟨r, i, none⟩ x).setCell ⟨r, j, none⟩ y).setCell ⟨r, l, none⟩ z) :=
  (chg_set2 w r i j x y).setCell (p := ⟨r, l, none⟩) (fun _ => rfl) z
theorem noBytes_cons {u : Value} {l : List Value} (hu : ∀ x : UInt8, u ≠ byt x) (h : NoBytes l.toArray) : NoBytes (u :: l).toArray := by
  intro v hv x
  rcases List.mem_cons.1 (by simpa using hv) with rfl | hv
  · exact hu x
  · exact h v (by simpa using hv) x
theorem noBytes_nil : NoBytes #[] := fun v hv => by simp at hv
theorem byt_str (s : ByteArray) (x : UInt8) : Value.string s ≠ byt x := by unfold byt; intro h; cases h
theorem byt_sl (a : Option Addr) (n c : Nat) (x : UInt8) : Value.slice a n c ≠ byt x := by unfold byt; intro h; cases h
theorem byt_i64 (n : Int) (x : UInt8) : Value.int .i64 n ≠ byt x := by unfold byt; intro h; cases h
theorem byt_u64 (n : Int) (x : UInt8) : Value.int .u64 n ≠ byt x := by unfold byt; intro h; cases h
theorem byt_bool (n : Bool) (x : UInt8) : Value.bool n ≠ byt x := by unfold byt; intro h; cases h
theorem noBytes_text (s : ByteArray) (a : Option Addr) (n c : Nat) : NoBytes #[.string s, .slice a n c] := noBytes_cons (byt_str s) (noBytes_cons (byt_sl a n c) noBytes_nil)
theorem noBytes_kept (s : ByteArray) (a : Option Addr) (n c : Nat) (k : Int) : NoBytes #[.string s, .slice a n c, .int .i64 k] := noBytes_cons (byt_str s) (noBytes_cons (byt_sl a n c) (noBytes_cons (byt_i64 k) noBytes_nil))
theorem noBytes_runs2 (a b c d : Int) : NoBytes #[.int .u64 a, .int .i64 b, .int .u64 c, .int .i64 d] := noBytes_cons (byt_u64 a) (noBytes_cons (byt_i64 b) (noBytes_cons (byt_u64 c) (noBytes_cons (byt_i64 d) noBytes_nil)))
end Go.Proofs.Ytacpfkkbjibmgaa

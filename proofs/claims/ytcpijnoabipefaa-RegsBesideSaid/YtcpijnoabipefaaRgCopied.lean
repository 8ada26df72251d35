/-
  An entry copied; entries as answers: layer 9.
-/
import Derived.Test.YtcpijnoabipefaaRgWords
namespace Go.Proofs.Ytcpijnoabipefaa
open Go.RowKit

theorem entry_facts : (∃ fs, Try.prog.underlying 33 = some (.struct fs)) ∧ (Try.prog.info? 33).map (·.size) = some 3 := ⟨⟨_, Try.underlying33⟩, by kernel_rfl⟩
theorem ret_entry {fn : Func} {p u : Tmp} (h : fn.results = #[.cell p 33, .tmp u]) (a : Act) (w : World) (g : Nat) (q r s : Value) (hp : a.tmps.getD p undef = .pointer (some ⟨g, 0, none⟩)) (hg : Blk w g 33 #[q, r, s]) (hd : a.defers = [])
    {Q : Ending → World → Prop} (hQ : Q (.returned (.tuple #[.agg #[q, r, s], a.tmps.getD u undef])) w) : bodyPost Try.prog fn Q .ret a w := by
  obtain ⟨⟨fs, hu⟩, hi⟩ := entry_facts
  refine bodyPost_ret (v := .tuple #[.agg #[q, r, s], a.tmps.getD u undef]) ?_ hd hQ
  have hp' : a.tmps[p]?.getD undef = .pointer (some ⟨g, 0, none⟩) := by simpa using hp
  rw [results_cell_tmp h]
  simp [hp', asAddr, run_loadVar_row w g 33 33 #[q, r, s] (0, 0) _ hg hu rfl hi]
theorem ret_entry1 {fn : Func} {p : Tmp} (h : fn.results = #[.cell p 33]) (a : Act) (w : World) (g : Nat) (q r s : Value) (hp : a.tmps.getD p undef = .pointer (some ⟨g, 0, none⟩)) (hg : Blk w g 33 #[q, r, s]) (hd : a.defers = [])
    {Q : Ending → World → Prop} (hQ : Q (.returned (.agg #[q, r, s])) w) : bodyPost Try.prog fn Q .ret a w := by
  obtain ⟨⟨fs, hu⟩, hi⟩ := entry_facts
  exact bodyPost_ret (results_cell_row h a.tmps w g 33 #[q, r, s] (0, 0) _ hp hg hu rfl hi) hd hQ
theorem en_cells {w : World} {g T : Nat} {a b c : Value} (h : Blk w g T #[a, b, c]) : w.cell? ⟨g, 0, none⟩ = some a ∧ w.cell? ⟨g, 1, none⟩ = some b ∧ w.cell? ⟨g, 2, none⟩ = some c :=
  ⟨by have := h.cell 0; simpa using this, by have := h.cell 1; simpa using this, by have := h.cell 2; simpa using this⟩
theorem en_var {w : World} {g T : Nat} {a b c : Value} (h : Blk w g T #[a, b, c]) : (w.cell? ⟨g, 0, none⟩ = some a ∧ w.cell? ⟨g, 1, none⟩ = some b ∧ w.cell? ⟨g, 2, none⟩ = some c) ∧ w.frozen? ⟨g, 0, none⟩ = false ∧ w.frozen? ⟨g, 1, none⟩ = false ∧ w.frozen? ⟨g, 2, none⟩ = false :=
  ⟨en_cells h, h.frozen 0, h.frozen 1, h.frozen 2⟩
theorem blk_three {w : World} {g T : Nat} {a b c : Value} (h : Blk w g T #[a, b, c]) (x y z : Value) : Blk (((w.setCell ⟨g, 0, none⟩ x).setCell ⟨g, 1, none⟩ y).setCell ⟨g, 2, none⟩ z) g T #[x, y, z] := by
  have := ((h.set_ 0 x).set_ 1 y).set_ 2 z
  simpa using this
/-- an entry alone, its runs in new memory -/
def GivesN1 (w : World) (S : List UInt8) (l : List RunP) (b : Bool) (e : Ending) (w' : World) : Prop :=
  ∃ A c, e = .returned (.agg #[.string ⟨S.toArray⟩, .slice A l.length c, .bool b]) ∧ w'.ownsRow w.heap.size 58 2 (.slice A l.length c) l.length (flatR l) ∧ Below w.heap.size w w'
theorem two_entry (w : World) (s v b : Value) : Blk ((w.alloc (.cells #[s, v, b] 33)).alloc (.cells #[.string ⟨#[]⟩, .slice none 0 0, .bool false] 33)) (w.heap.size + 1) 33 #[.string ⟨#[]⟩, .slice none 0 0, .bool false] := by
  have := Blk.new (w.alloc (.cells #[s, v, b] 33)) 33 #[.string ⟨#[]⟩, .slice none 0 0, .bool false]
  simpa using this
set_option maxHeartbeats 1000000 in
theorem rgCopied_any (A : Option Addr) (c : Nat) (S : List UInt8) (l : List RunP) (b : Bool) (hl : l.length ≤ 1000000) (w : World) (h : Txu w A S l) :
    Calls Try.prog 28 #[.agg #[.string ⟨S.toArray⟩, .slice A l.length c, .bool b]] w (GivesN1 w S l b) := by
  have K := Lib.hid (((blk_box (T := 33) (cs := #[.string ⟨S.toArray⟩, .slice A l.length c, .bool b]) w).alloc (.cells #[.string ⟨#[]⟩, .slice none 0 0, .bool false] 33)).and ((grow_blk (two_entry w (.string ⟨S.toArray⟩) (.slice A l.length c) (.bool b))).and (((bel_box (Below.refl w.heap.size w) (.cells #[.string ⟨S.toArray⟩, .slice A l.length c, .bool b] 33)).alloc (.cells #[.string ⟨#[]⟩, .slice none 0 0, .bool false] 33)).and (((grow_txu h).alloc (.cells #[.string ⟨S.toArray⟩, .slice A l.length c, .bool b] 33)).alloc (.cells #[.string ⟨#[]⟩, .slice none 0 0, .bool false] 33)))))
  clear h
  go_enter Try.func28, Try.ntmps28
  go_upto_region 1 with fail
  generalize (w.alloc (.cells #[.string ⟨S.toArray⟩, .slice A l.length c, .bool b] 33)).alloc (.cells #[.string ⟨#[]⟩, .slice none 0 0, .bool false] 33) = wb at *
  have Z := Lib.hid (show w.heap.size + 1 < wb.heap.size from K.out.now.2.1.lt)
  obtain ⟨⟨y0, y1, y2⟩, f0, f1, f2⟩ := en_var K.out.now.1
  go_wp2_with (go_at_call 38; refine (ediClone_any A c l hl wb K.out.now.2.2.2.row).mono ?_; rintro e w3 ⟨A3, c3, rfl, own3, bb⟩; replace K := Lib.hid (K.out.step bb); clear y0 y1 y2 f0 f1 f2; obtain ⟨⟨y0, y1, y2⟩, f0, f1, f2⟩ := en_var K.out.now.1; obtain ⟨⟨z0, z1, z2⟩, k0, k1, k2⟩ := en_var K.out.now.2.1; have HO := Lib.hid own3; clear own3; have hz := bb.size; clear bb)
  have kz := Z.out
  refine ret_entry1 rfl _ _ (w.heap.size + 1) _ _ _ rfl (blk_three (K.out.now.2.1.far (p := ⟨w.heap.size, 1, none⟩) (by show _ ≠ _; simp) _) _ _ _) rfl ?_
  have hk : ∀ i, w.heap.size ≤ (⟨w.heap.size + 1, i, none⟩ : Addr).block := fun i => by simp
  have hk2 : ∀ i, (⟨w.heap.size + 1, i, none⟩ : Addr).block < wb.heap.size := fun i => by simp; omega
  exact ⟨A3, c3, rfl, own_base (own_away (own_away (own_away (own_away HO.out (p := ⟨w.heap.size, 1, none⟩) (by simp; omega) _) (hk2 0) _) (hk2 1) _) (hk2 2) _) (by omega), (((K.out.now.2.2.1.setCell (p := ⟨w.heap.size, 1, none⟩) (Nat.le_refl _) _).setCell (hk 0) _).setCell (hk 1) _).setCell (hk 2) _⟩
end Go.Proofs.Ytcpijnoabipefaa

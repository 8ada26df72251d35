/-
  The landed Copy: layer 9.
-/
import Derived.Test.YtcpijnoabipefaaRgGet
namespace Go.Proofs.Ytcpijnoabipefaa
open Go.RowKit

section
variable {P Q : Nat → Prop} {w : World} {g g2 : Nat} {R : List RegP}
theorem Rgs.twin (h : Rgs w Q g R) {cs : Array Value} (h1 : Blk w g 53 cs) (h2 : Blk w g2 53 cs) (hq : Q g2) : Rgs w Q g2 R := by
  obtain ⟨Z, e1, e2, e3⟩ := h.mem
  have e := h1.symm.trans e2
  simp only [Option.some.injEq, Obj.cells.injEq, and_true] at e
  subst e
  exact ⟨h.ok, hq, h.lt, Z, e1, h2, e3⟩
end
/-- the cells of registers that no call made -/
def zeroC : Array Value := (.bool false :: flatG (List.replicate 38 zeroV)).toArray
set_option maxRecDepth 100000 in
theorem zero_info : (Try.prog.info? 53).map (fun i => i.zero) = some (some (.agg zeroC)) := by kernel_rfl
theorem zeroC_size : zeroC.size = 153 := by simp [zeroC, flatG_len]
attribute [irreducible] zeroC
/-- registers that are new, beside the elder ones -/
def GivesC (w : World) (P : Nat → Prop) (g : Nat) (R : List RegP) (e : Ending) (w' : World) : Prop :=
  ∃ g2, e = .returned (.pointer (some ⟨g2, 0, none⟩)) ∧ w.heap.size ≤ g2 ∧ Rgs w' (fun k => P k ∨ k = g2) g R ∧ Rgs w' (fun k => P k ∨ k = g2) g2 R ∧ Below w.heap.size w w'
set_option maxRecDepth 100000 in
set_option maxHeartbeats 1000000 in
theorem rgCopy_any {P : Nat → Prop} {w : World} {g : Nat} {R : List RegP} (h : Rgs w P g R) : Calls Try.prog 15 #[.pointer (some ⟨g, 0, none⟩)] w (GivesC w P g R) := by
  obtain ⟨L, hL, hn⟩ : ∃ L : Array Value, Blk w g 53 L ∧ (L.size = 153 ∧ L.all (·.oneCell') = true) := by
    obtain ⟨Z, e1, e2, e3⟩ := h.mem
    have hz : Z.length = 38 := by have := h.ok.len; rw [← e1, List.length_map] at this; exact this
    refine ⟨_, e2, by simp [flatG_len, hz], ?_⟩
    rw [← Array.all_toList, List.all_eq_true]
    intro x hx
    rcases List.mem_cons.1 hx with rfl | hx
    · rfl
    · exact flatG_cell Z x hx
  have HL := Lib.hid hL
  have HN := Lib.hid hn
  have H := Lib.hid h
  clear h hL hn
  go_enter Try.func15, Try.ntmps15
  go_wp2_with (first
    | (go_at_call 26; refine (rgUsable_any H.out).mono ?_; rintro e w' ⟨rfl, hw⟩; subst w')
    | ((with_reducible refine at_load 53 _ ?_); refine wpList_load_row rfl 53 _ rfl g rfl 53 L (0, 0) _ HL.out Try.underlying53 rfl (by rw [HN.out.1]; kernel_rfl) ?_)
    | ((with_reducible refine at_alloc _ 53 ?_); refine wpList_newRow rfl 53 rfl zeroC zero_info ?_; intro w2 g2 hg2 hlt2 hb2 bb2; have B2 := Lib.hid hb2; have W2 := Lib.hid bb2; clear hb2 bb2)
    | ((with_reducible refine at_store 53 _ _ ?_); refine wpList_setRow rfl 53 _ _ rfl g2 L rfl rfl 53 zeroC B2.out (by rw [HN.out.1]; kernel_rfl) (by rw [zeroC_size, HN.out.1]) HN.out.2 ?_; intro w3 hb3 hg3; have B3 := Lib.hid hb3; have G3 := Lib.hid hg3; clear hb3 hg3))
  go_ret
  have hz := W2.out.size
  have hz3 := G3.out.size
  have hb : Below w.heap.size w w3 := W2.out.grown G3.out hz (fun k hk => by cases hk; exact hg2)
  have hR : Rgs w3 (fun k => P k ∨ k = g2) g R := H.out.more hb (fun k hk => Or.inl hk) (fun k hk => by rcases hk with hk | rfl; exact Or.inl hk; exact Or.inr hg2) (fun k hk => by rcases hk with hk | rfl; have := H.out.lt k hk; omega; omega)
  exact ⟨g2, rfl, hg2, hR, hR.twin (HL.out.below hb H.out.tch) B3.out (Or.inr rfl), hb⟩
end Go.Proofs.Ytcpijnoabipefaa

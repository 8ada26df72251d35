/-
  A text's variable is written: what lies elsewhere stays: layer 4.
-/
import Derived.Test.YtgpmfkedcoiopaaGreatDoorM04
namespace Go.Proofs.YtgpmfkedcoiopaaGreatDoor
set_option maxRecDepth 100000
open Go.RowKit

section
variable {wx : World}
theorem row_ints {B : Nat} {A : Option Addr} {l : List RunP} (h : Row wx B A (flatR l)) : flatR l = [] ∨ ∃ ad, A = some ad ∧ ad.block < B ∧ ∀ j u, (flatR l)[j]? = some u → wx.cell? (ad.add j) = some u ∧ ∃ k n, u = .int k n := by
  rcases h with h | ⟨ad, e, hb, hc⟩
  · exact .inl h
  · refine .inr ⟨ad, e, hb, fun j u hj => ⟨hc j u hj, ?_⟩⟩
    have hm := List.mem_of_getElem? hj
    unfold flatR at hm
    obtain ⟨r, _, hr⟩ := List.mem_flatMap.1 hm
    simp at hr
    rcases hr with rfl | rfl
    · exact ⟨_, _, rfl⟩
    · exact ⟨_, _, rfl⟩
/-- runs do not lie in a text's variable -/
theorem row_setV {B g : Nat} {A : Option Addr} {l : List RunP} {s : ByteArray} {a : Option Addr} {n c : Nat} (h : Row wx B A (flatR l)) (hg : Blk wx g 32 #[.string s, .slice a n c]) (x y : Value) :
    Row ((wx.setCell ⟨g, 0, none⟩ x).setCell ⟨g, 1, none⟩ y) B A (flatR l) := by
  rcases row_ints h with h | ⟨ad, e, hb, hc⟩
  · exact .inl h
  · refine .inr ⟨ad, e, hb, fun j u hj => ?_⟩
    obtain ⟨h1, k, m, rfl⟩ := hc j u hj
    have hne : (ad.add j).block ≠ g := by
      intro hbg
      have hh : wx.heap[(ad.add j).block]? = some (.cells #[.string s, .slice a n c] 32 (0, 0)) := by rw [hbg]; exact hg
      unfold World.cell? at h1
      rw [hh] at h1
      dsimp only at h1
      rcases hoff : (ad.add j).off with _ | _ | o
      · rw [hoff] at h1; simp at h1
      · rw [hoff] at h1; simp at h1
      · rw [hoff] at h1; simp at h1
    rw [World.cell?_of_block (heap_setCell_other _ ⟨g, 1, none⟩ _ _ hne), World.cell?_of_block (heap_setCell_other _ ⟨g, 0, none⟩ _ _ hne)]
    exact h1
theorem Txt.setV {B g : Nat} {A : Option Addr} {S : List UInt8} {l : List RunP} {s : ByteArray} {a : Option Addr} {n c : Nat} (h : Txt wx B A S l) (hg : Blk wx g 32 #[.string s, .slice a n c]) (x y : Value) :
    Txt ((wx.setCell ⟨g, 0, none⟩ x).setCell ⟨g, 1, none⟩ y) B A S l := ⟨h.hS, h.hf, h.hl, row_setV h.row hg x y⟩
end
end Go.Proofs.YtgpmfkedcoiopaaGreatDoor

/-
  What is hidden in a text stays hidden (over what strip says): layer 4.
-/
import Derived.Test.YtgpmfkedcoiopaaGreatDoorM04s
import Derived.Test.YtgpmfkedcoiopaaGreatDoorM04
import Derived.Deep.RegionHeld3
import Derived.Deep.DeepCutAuto
namespace Go.Proofs.YtgpmfkedcoiopaaGreatDoor
set_option maxRecDepth 100000
open Go.RowKit

theorem belowT_al {B : Nat} {a b : World} {o : Obj} (h : Below B a b) (hB : B ≤ a.heap.size) : Below B a (b.alloc o) := h.alloc (Nat.le_trans hB h.size) o
theorem belowT_dr {B : Nat} {a b : World} (h : Below B a b) : Below B a b.drew := h.drew
theorem use_factT {p G : Prop} (h : p) (k : p → G) : G := k h
theorem blkT_step {W w' : World} {k T : Nat} {cs : Array Value} (h : Blk W k T cs) (hb : Below W.heap.size W w') : Blk w' k T cs := h.below hb h.lt
/-- a text's variable of the call's own, known and free -/
def KnT (w : World) (k : Nat) : Prop := (w.cell? ⟨k, 0, none⟩ = some (.string ⟨#[]⟩) ∧ w.cell? ⟨k, 1, none⟩ = some (.slice none 0 0)) ∧ (w.frozen? ⟨k, 0, none⟩ = false ∧ w.frozen? ⟨k, 1, none⟩ = false) ∧ k < w.heap.size ∧ k ≠ w.heap.size ∧ w.heap.size ≠ k
theorem knT_of {w : World} {k : Nat} (h : Blk w k 32 #[.string ⟨#[]⟩, .slice none 0 0]) : KnT w k := by
  have := h.lt
  exact ⟨txt_cells h, ⟨h.frozen 0, h.frozen 1⟩, this, by omega, by omega⟩
theorem knT_one {X w' : World} (hb : Below (X.alloc (.cells #[.string ⟨#[]⟩, .slice none 0 0] 32)).heap.size (X.alloc (.cells #[.string ⟨#[]⟩, .slice none 0 0] 32)) w') : Blk w' X.heap.size 32 #[.string ⟨#[]⟩, .slice none 0 0] :=
  (Blk.new X _ _).below hb (by simp)
theorem knT_one_drew {X w' : World} (hb : Below (X.alloc (.cells #[.string ⟨#[]⟩, .slice none 0 0] 32)).drew.heap.size (X.alloc (.cells #[.string ⟨#[]⟩, .slice none 0 0] 32)).drew w') : Blk w' X.heap.size 32 #[.string ⟨#[]⟩, .slice none 0 0] :=
  (Blk.new X _ _).drew.below hb (by show _ < (X.alloc _).heap.size; simp)
/-- an answer in a variable -/
structure AnsK (wx : World) (g : Nat) (A : Option Addr) (c : Nat) (U : List UInt8) (q : List RunP) : Prop where
  blk : Blk wx g 32 #[.string ⟨U.toArray⟩, .slice A q.length c]
  txt : Txt wx wx.heap.size A U q
section
variable {w wx w' : World} {cs c1 c2 : Array Value} {g1 g2 : Nat}
theorem row_cell_int {B : Nat} {A : Option Addr} {l : List RunP} (h : Row wx B A (flatR l)) : flatR l = [] ∨ ∃ ad, A = some ad ∧ ad.block < B ∧ ∀ j u, (flatR l)[j]? = some u → wx.cell? (ad.add j) = some u ∧ ∃ k n, u = .int k n := by
  rcases h with h | ⟨ad, e, hb, hc⟩
  · exact .inl h
  · refine .inr ⟨ad, e, hb, fun j u hj => ⟨hc j u hj, ?_⟩⟩
    have hm := List.mem_of_getElem? hj
    unfold flatR at hm
    obtain ⟨r, _, hr⟩ := List.mem_flatMap.1 hm
    simp at hr
    rcases hr with rfl | rfl
    · exact ⟨_, _, rfl⟩
    · exact ⟨_, _, rfl⟩
/-- runs do not lie in a text's variable -/
theorem row_setT {B g : Nat} {A : Option Addr} {l : List RunP} {s : ByteArray} {a : Option Addr} {n c : Nat} (h : Row wx B A (flatR l)) (hg : Blk wx g 32 #[.string s, .slice a n c]) (x y : Value) :
    Row ((wx.setCell ⟨g, 0, none⟩ x).setCell ⟨g, 1, none⟩ y) B A (flatR l) := by
  rcases row_cell_int h with h | ⟨ad, e, hb, hc⟩
  · exact .inl h
  · refine .inr ⟨ad, e, hb, fun j u hj => ?_⟩
    obtain ⟨h1, k, m, rfl⟩ := hc j u hj
    have hne : (ad.add j).block ≠ g := by
      intro hbg
      have hh : wx.heap[(ad.add j).block]? = some (.cells #[.string s, .slice a n c] 32 (0, 0)) := by rw [hbg]; exact hg
      unfold World.cell? at h1
      rw [hh] at h1
      dsimp only at h1
      rcases hoff : (ad.add j).off with _ | _ | o
      · rw [hoff] at h1; simp at h1
      · rw [hoff] at h1; simp at h1
      · rw [hoff] at h1; simp at h1
    rw [World.cell?_of_block (heap_setCell_other _ ⟨g, 1, none⟩ _ _ hne), World.cell?_of_block (heap_setCell_other _ ⟨g, 0, none⟩ _ _ hne)]
    exact h1
theorem Txt.setT {B g : Nat} {A : Option Addr} {S : List UInt8} {l : List RunP} {s : ByteArray} {a : Option Addr} {n c : Nat} (h : Txt wx B A S l) (hg : Blk wx g 32 #[.string s, .slice a n c]) (x y : Value) :
    Txt ((wx.setCell ⟨g, 0, none⟩ x).setCell ⟨g, 1, none⟩ y) B A S l := ⟨h.hS, h.hf, h.hl, row_setT h.row hg x y⟩
variable {g : Nat} {A : Option Addr} {c : Nat} {U : List UInt8} {q : List RunP}
theorem AnsK.step (h : AnsK wx g A c U q) (hb : Below wx.heap.size wx w') : AnsK w' g A c U q := ⟨h.blk.below hb h.blk.lt, (h.txt.below hb).more hb.size⟩
theorem AnsK.alloc (h : AnsK wx g A c U q) (o : Obj) : AnsK (wx.alloc o) g A c U q := h.step ((Below.refl _ _).alloc (Nat.le_refl _) o)
theorem AnsK.set {g' : Nat} {s : ByteArray} {a : Option Addr} {n d : Nat} (h : AnsK wx g A c U q) (hg : Blk wx g' 32 #[.string s, .slice a n d]) (hne : g ≠ g') (x y : Value) :
    AnsK ((wx.setCell ⟨g', 0, none⟩ x).setCell ⟨g', 1, none⟩ y) g A c U q :=
  ⟨(h.blk.far (show g ≠ g' from hne) x).far (show g ≠ g' from hne) y, by have := h.txt.setT hg x y; simpa using this⟩
end

end Go.Proofs.YtgpmfkedcoiopaaGreatDoor

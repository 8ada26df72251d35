/-
  What is hidden in a text stays hidden (over what strip says): layer 4.
-/
import Derived.Test.YtmpliacojljchaaM04s
import Derived.Test.YtmpliacojljchaaM04
import Derived.Deep.RegionHeld3
import Derived.Deep.DeepCutAuto
namespace Go.Proofs.Ytmpliacojljchaa
open Go.RowKit

theorem hide_cells {w : World} {g : Nat} {T : TypeId} {a b c d e f h i : Value} (q : Blk w g T #[a, b, c, d, e, f, h, i]) : w.cell? ⟨g, 0, none⟩ = some a ∧ w.cell? ⟨g, 1, none⟩ = some b ∧ w.cell? ⟨g, 2, none⟩ = some c ∧ w.cell? ⟨g, 3, none⟩ = some d ∧ w.cell? ⟨g, 4, none⟩ = some e ∧ w.cell? ⟨g, 5, none⟩ = some f ∧ w.cell? ⟨g, 6, none⟩ = some h ∧ w.cell? ⟨g, 7, none⟩ = some i :=
  ⟨by have := q.cell 0; simpa using this, by have := q.cell 1; simpa using this, by have := q.cell 2; simpa using this, by have := q.cell 3; simpa using this, by have := q.cell 4; simpa using this, by have := q.cell 5; simpa using this, by have := q.cell 6; simpa using this, by have := q.cell 7; simpa using this⟩
theorem belowT_al {B : Nat} {a b : World} {o : Obj} (h : Below B a b) (hB : B ≤ a.heap.size) : Below B a (b.alloc o) := h.alloc (Nat.le_trans hB h.size) o
theorem belowT_dr {B : Nat} {a b : World} (h : Below B a b) : Below B a b.drew := h.drew
theorem use_factT {p G : Prop} (h : p) (k : p → G) : G := k h
theorem blkT_step {W w' : World} {k T : Nat} {cs : Array Value} (h : Blk W k T cs) (hb : Below W.heap.size W w') : Blk w' k T cs := h.below hb h.lt
theorem blkT_new1 (X : World) (a : Obj) (T : TypeId) (cs : Array Value) : Blk ((X.alloc a).alloc (.cells cs T)) (X.heap.size + 1) T cs := by
  have := Blk.new (X.alloc a) T cs
  simpa using this
theorem blkT_newS (X : World) (p q : Addr) (u v : Value) (T : TypeId) (cs : Array Value) : Blk (((X.setCell p u).setCell q v).alloc (.cells cs T)) X.heap.size T cs := by
  have := Blk.new ((X.setCell p u).setCell q v) T cs
  simpa using this
/-- a text's variable of the call's own, known and free -/
def KnT (w : World) (k : Nat) : Prop := (w.cell? ⟨k, 0, none⟩ = some (.string ⟨#[]⟩) ∧ w.cell? ⟨k, 1, none⟩ = some (.slice none 0 0)) ∧ (w.frozen? ⟨k, 0, none⟩ = false ∧ w.frozen? ⟨k, 1, none⟩ = false) ∧ k < w.heap.size ∧ k ≠ w.heap.size ∧ w.heap.size ≠ k
theorem knT_of {w : World} {k : Nat} (h : Blk w k 24 #[.string ⟨#[]⟩, .slice none 0 0]) : KnT w k := by
  have := h.lt
  exact ⟨txt_cells h, ⟨h.frozen 0, h.frozen 1⟩, this, by omega, by omega⟩
theorem knT_one {X w' : World} (hb : Below (X.alloc (.cells #[.string ⟨#[]⟩, .slice none 0 0] 24)).heap.size (X.alloc (.cells #[.string ⟨#[]⟩, .slice none 0 0] 24)) w') : Blk w' X.heap.size 24 #[.string ⟨#[]⟩, .slice none 0 0] :=
  (Blk.new X _ _).below hb (by simp)
theorem knT_one_drew {X w' : World} (hb : Below (X.alloc (.cells #[.string ⟨#[]⟩, .slice none 0 0] 24)).drew.heap.size (X.alloc (.cells #[.string ⟨#[]⟩, .slice none 0 0] 24)).drew w') : Blk w' X.heap.size 24 #[.string ⟨#[]⟩, .slice none 0 0] :=
  (Blk.new X _ _).drew.below hb (by show _ < (X.alloc _).heap.size; simp)
theorem knT_two {X w' : World} (hb : Below ((X.alloc (.cells #[.string ⟨#[]⟩, .slice none 0 0] 24)).alloc (.cells #[.string ⟨#[]⟩, .slice none 0 0] 24)).heap.size ((X.alloc (.cells #[.string ⟨#[]⟩, .slice none 0 0] 24)).alloc (.cells #[.string ⟨#[]⟩, .slice none 0 0] 24)) w') : Blk w' X.heap.size 24 #[.string ⟨#[]⟩, .slice none 0 0] ∧ Blk w' (X.heap.size + 1) 24 #[.string ⟨#[]⟩, .slice none 0 0] :=
  ⟨((Blk.new X _ _).alloc _).below hb (by simp; omega), by have := (Blk.new (X.alloc (.cells #[.string ⟨#[]⟩, .slice none 0 0] 24)) 24 #[.string ⟨#[]⟩, .slice none 0 0]).below hb (by simp); simpa using this⟩
theorem knT_two_drew {X w' : World} (hb : Below ((X.alloc (.cells #[.string ⟨#[]⟩, .slice none 0 0] 24)).alloc (.cells #[.string ⟨#[]⟩, .slice none 0 0] 24)).drew.heap.size ((X.alloc (.cells #[.string ⟨#[]⟩, .slice none 0 0] 24)).alloc (.cells #[.string ⟨#[]⟩, .slice none 0 0] 24)).drew w') : Blk w' X.heap.size 24 #[.string ⟨#[]⟩, .slice none 0 0] ∧ Blk w' (X.heap.size + 1) 24 #[.string ⟨#[]⟩, .slice none 0 0] :=
  knT_two ⟨hb.os, hb.tape, hb.output, hb.size, hb.block⟩

/-- what stays while answers come and go: the argument's box, the two other texts -/
structure HideK (w wx : World) (cs : Array Value) (g1 g2 : Nat) (c1 c2 : Array Value) : Prop where
  box : Blk wx w.heap.size 51 cs
  b1 : Blk wx g1 24 c1
  b2 : Blk wx g2 24 c2
  bl : Below w.heap.size w wx
/-- an answer in a variable -/
structure AnsK (wx : World) (g : Nat) (A : Option Addr) (c : Nat) (U : List UInt8) (q : List RunP) : Prop where
  blk : Blk wx g 24 #[.string ⟨U.toArray⟩, .slice A q.length c]
  txt : Txt wx wx.heap.size A U q
section
variable {w wx w' : World} {cs c1 c2 : Array Value} {g1 g2 : Nat}
theorem HideK.step (h : HideK w wx cs g1 g2 c1 c2) (hb : Below wx.heap.size wx w') : HideK w w' cs g1 g2 c1 c2 :=
  ⟨h.box.below hb h.box.lt, h.b1.below hb h.b1.lt, h.b2.below hb h.b2.lt, h.bl.trans (hb.mono h.bl.size)⟩
theorem HideK.alloc (h : HideK w wx cs g1 g2 c1 c2) (o : Obj) : HideK w (wx.alloc o) cs g1 g2 c1 c2 := h.step ((Below.refl _ _).alloc (Nat.le_refl _) o)
theorem HideK.set (h : HideK w wx cs g1 g2 c1 c2) {g : Nat} (h0 : w.heap.size < g) (h1 : g1 ≠ g) (h2 : g2 ≠ g) (j : Nat) (v : Value) : HideK w (wx.setCell ⟨g, j, none⟩ v) cs g1 g2 c1 c2 :=
  ⟨h.box.far (show w.heap.size ≠ g by omega) v, h.b1.far (show g1 ≠ g from h1) v, h.b2.far (show g2 ≠ g from h2) v, h.bl.setCell (show w.heap.size ≤ g by omega) v⟩
theorem row_cell_int {B : Nat} {A : Option Addr} {l : List RunP} (h : Row wx B A (flatR l)) : flatR l = [] ∨ ∃ ad, A = some ad ∧ ad.block < B ∧ ∀ j u, (flatR l)[j]? = some u → wx.cell? (ad.add j) = some u ∧ ∃ k n, u = .int k n := by
  rcases h with h | ⟨ad, e, hb, hc⟩
  · exact .inl h
  · refine .inr ⟨ad, e, hb, fun j u hj => ⟨hc j u hj, ?_⟩⟩
    have hm := List.mem_of_getElem? hj
    unfold flatR at hm
    obtain ⟨r, _, hr⟩ := List.mem_flatMap.1 hm
    simp at hr
    rcases hr with rfl | rfl
    · exact ⟨_, _, rfl⟩
    · exact ⟨_, _, rfl⟩
/-- runs do not lie in a text's variable -/
theorem row_setT {B g : Nat} {A : Option Addr} {l : List RunP} {s : ByteArray} {a : Option Addr} {n c : Nat} (h : Row wx B A (flatR l)) (hg : Blk wx g 24 #[.string s, .slice a n c]) (x y : Value) :
    Row ((wx.setCell ⟨g, 0, none⟩ x).setCell ⟨g, 1, none⟩ y) B A (flatR l) := by
  rcases row_cell_int h with h | ⟨ad, e, hb, hc⟩
  · exact .inl h
  · refine .inr ⟨ad, e, hb, fun j u hj => ?_⟩
    obtain ⟨h1, k, m, rfl⟩ := hc j u hj
    have hne : (ad.add j).block ≠ g := by
      intro hbg
      have hh : wx.heap[(ad.add j).block]? = some (.cells #[.string s, .slice a n c] 24 (0, 0)) := by rw [hbg]; exact hg
      unfold World.cell? at h1
      rw [hh] at h1
      dsimp only at h1
      rcases hoff : (ad.add j).off with _ | _ | o
      · rw [hoff] at h1; simp at h1
      · rw [hoff] at h1; simp at h1
      · rw [hoff] at h1; simp at h1
    rw [World.cell?_of_block (heap_setCell_other _ ⟨g, 1, none⟩ _ _ hne), World.cell?_of_block (heap_setCell_other _ ⟨g, 0, none⟩ _ _ hne)]
    exact h1
theorem Txt.setT {B g : Nat} {A : Option Addr} {S : List UInt8} {l : List RunP} {s : ByteArray} {a : Option Addr} {n c : Nat} (h : Txt wx B A S l) (hg : Blk wx g 24 #[.string s, .slice a n c]) (x y : Value) :
    Txt ((wx.setCell ⟨g, 0, none⟩ x).setCell ⟨g, 1, none⟩ y) B A S l := ⟨h.hS, h.hf, h.hl, row_setT h.row hg x y⟩
variable {g : Nat} {A : Option Addr} {c : Nat} {U : List UInt8} {q : List RunP}
theorem AnsK.step (h : AnsK wx g A c U q) (hb : Below wx.heap.size wx w') : AnsK w' g A c U q := ⟨h.blk.below hb h.blk.lt, (h.txt.below hb).more hb.size⟩
theorem AnsK.alloc (h : AnsK wx g A c U q) (o : Obj) : AnsK (wx.alloc o) g A c U q := h.step ((Below.refl _ _).alloc (Nat.le_refl _) o)
theorem ansK_new (h : Txt wx wx.heap.size A U q) : AnsK (wx.alloc (.cells #[.string ⟨U.toArray⟩, .slice A q.length c] 24)) wx.heap.size A c U q :=
  ⟨Blk.new _ _ _, (h.below ((Below.refl _ _).alloc (Nat.le_refl _) _)).more (by simp)⟩
theorem ansK_set {g' : Nat} {s : ByteArray} {a : Option Addr} {n d : Nat} (h : Txt wx wx.heap.size A U q) (hg : Blk wx g' 24 #[.string s, .slice a n d]) :
    AnsK ((wx.setCell ⟨g', 0, none⟩ (.string ⟨U.toArray⟩)).setCell ⟨g', 1, none⟩ (.slice A q.length c)) g' A c U q :=
  ⟨blk_two hg _ _, by have := h.setT hg (.string ⟨U.toArray⟩) (.slice A q.length c); simpa using this⟩
theorem AnsK.set {g' : Nat} {s : ByteArray} {a : Option Addr} {n d : Nat} (h : AnsK wx g A c U q) (hg : Blk wx g' 24 #[.string s, .slice a n d]) (hne : g ≠ g') (x y : Value) :
    AnsK ((wx.setCell ⟨g', 0, none⟩ x).setCell ⟨g', 1, none⟩ y) g A c U q :=
  ⟨(h.blk.far (show g ≠ g' from hne) x).far (show g ≠ g' from hne) y, by have := h.txt.setT hg x y; simpa using this⟩
end

end Go.Proofs.Ytmpliacojljchaa

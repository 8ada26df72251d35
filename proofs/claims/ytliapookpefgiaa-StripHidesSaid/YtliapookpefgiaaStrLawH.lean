/-
  What is hidden in a text stays hidden (over what strip says): layer 4.
-/
import Derived.Test.YtliapookpefgiaaM04s
import Derived.Test.YtliapookpefgiaaM04
import Derived.Deep.RegionHeld3
import Derived.Deep.DeepCutAuto
namespace Go.Proofs.Ytliapookpefgiaa
open Go.RowKit

theorem hide_cells {w : World} {g : Nat} {T : TypeId} {a b c d e f h i : Value} (q : Blk w g T #[a, b, c, d, e, f, h, i]) : w.cell? ⟨g, 0, none⟩ = some a ∧ w.cell? ⟨g, 1, none⟩ = some b ∧ w.cell? ⟨g, 2, none⟩ = some c ∧ w.cell? ⟨g, 3, none⟩ = some d ∧ w.cell? ⟨g, 4, none⟩ = some e ∧ w.cell? ⟨g, 5, none⟩ = some f ∧ w.cell? ⟨g, 6, none⟩ = some h ∧ w.cell? ⟨g, 7, none⟩ = some i :=
  ⟨by have := q.cell 0; simpa using this, by have := q.cell 1; simpa using this, by have := q.cell 2; simpa using this, by have := q.cell 3; simpa using this, by have := q.cell 4; simpa using this, by have := q.cell 5; simpa using this, by have := q.cell 6; simpa using this, by have := q.cell 7; simpa using this⟩
theorem belowT_al {B : Nat} {a b : World} {o : Obj} (h : Below B a b) (hB : B ≤ a.heap.size) : Below B a (b.alloc o) := h.alloc (Nat.le_trans hB h.size) o
theorem belowT_dr {B : Nat} {a b : World} (h : Below B a b) : Below B a b.drew := h.drew
theorem use_factT {p G : Prop} (h : p) (k : p → G) : G := k h
theorem blkT_step {W w' : World} {k T : Nat} {cs : Array Value} (h : Blk W k T cs) (hb : Below W.heap.size W w') : Blk w' k T cs := h.below hb h.lt
theorem blkT_new1 (X : World) (a : Obj) (T : TypeId) (cs : Array Value) : Blk ((X.alloc a).alloc (.cells cs T)) (X.heap.size + 1) T cs := by
  have := Blk.new (X.alloc a) T cs
  simpa using this
theorem blkT_newS (X : World) (p q : Addr) (u v : Value) (T : TypeId) (cs : Array Value) : Blk (((X.setCell p u).setCell q v).alloc (.cells cs T)) X.heap.size T cs := by
  have := Blk.new ((X.setCell p u).setCell q v) T cs
  simpa using this
/-- a text's variable of the call's own, known and free -/
def KnT (w : World) (k : Nat) : Prop := (w.cell? ⟨k, 0, none⟩ = some (.string ⟨#[]⟩) ∧ w.cell? ⟨k, 1, none⟩ = some (.slice none 0 0)) ∧ (w.frozen? ⟨k, 0, none⟩ = false ∧ w.frozen? ⟨k, 1, none⟩ = false) ∧ k < w.heap.size ∧ k ≠ w.heap.size ∧ w.heap.size ≠ k
theorem knT_of {w : World} {k : Nat} (h : Blk w k 24 #[.string ⟨#[]⟩, .slice none 0 0]) : KnT w k := by
  have := h.lt
  exact ⟨txt_cells h, ⟨h.frozen 0, h.frozen 1⟩, this, by omega, by omega⟩
theorem knT_one {X w' : World} (hb : Below (X.alloc (.cells #[.string ⟨#[]⟩, .slice none 0 0] 24)).heap.size (X.alloc (.cells #[.string ⟨#[]⟩, .slice none 0 0] 24)) w') : Blk w' X.heap.size 24 #[.string ⟨#[]⟩, .slice none 0 0] :=
  (Blk.new X _ _).below hb (by simp)
theorem knT_one_drew {X w' : World} (hb : Below (X.alloc (.cells #[.string ⟨#[]⟩, .slice none 0 0] 24)).drew.heap.size (X.alloc (.cells #[.string ⟨#[]⟩, .slice none 0 0] 24)).drew w') : Blk w' X.heap.size 24 #[.string ⟨#[]⟩, .slice none 0 0] :=
  (Blk.new X _ _).drew.below hb (by show _ < (X.alloc _).heap.size; simp)
theorem knT_two {X w' : World} (hb : Below ((X.alloc (.cells #[.string ⟨#[]⟩, .slice none 0 0] 24)).alloc (.cells #[.string ⟨#[]⟩, .slice none 0 0] 24)).heap.size ((X.alloc (.cells #[.string ⟨#[]⟩, .slice none 0 0] 24)).alloc (.cells #[.string ⟨#[]⟩, .slice none 0 0] 24)) w') : Blk w' X.heap.size 24 #[.string ⟨#[]⟩, .slice none 0 0] ∧ Blk w' (X.heap.size + 1) 24 #[.string ⟨#[]⟩, .slice none 0 0] :=
  ⟨((Blk.new X _ _).alloc _).below hb (by simp; omega), by have := (Blk.new (X.alloc (.cells #[.string ⟨#[]⟩, .slice none 0 0] 24)) 24 #[.string ⟨#[]⟩, .slice none 0 0]).below hb (by simp); simpa using this⟩
theorem knT_two_drew {X w' : World} (hb : Below ((X.alloc (.cells #[.string ⟨#[]⟩, .slice none 0 0] 24)).alloc (.cells #[.string ⟨#[]⟩, .slice none 0 0] 24)).drew.heap.size ((X.alloc (.cells #[.string ⟨#[]⟩, .slice none 0 0] 24)).alloc (.cells #[.string ⟨#[]⟩, .slice none 0 0] 24)).drew w') : Blk w' X.heap.size 24 #[.string ⟨#[]⟩, .slice none 0 0] ∧ Blk w' (X.heap.size + 1) 24 #[.string ⟨#[]⟩, .slice none 0 0] :=
  knT_two ⟨hb.os, hb.tape, hb.output, hb.size, hb.block⟩

/-- what stays while answers come and go: the argument's box, the two other texts -/
structure HideK (w wx : World) (cs : Array Value) (g1 g2 : Nat) (c1 c2 : Array Value) : Prop where
  box : Blk wx w.heap.size 54 cs
  b1 : Blk wx g1 24 c1
  b2 : Blk wx g2 24 c2
  bl : Below w.heap.size w wx
/-- an answer in a variable -/
structure AnsK (wx : World) (g : Nat) (A : Option Addr) (c : Nat) (U : List UInt8) (q : List RunP) : Prop where
  blk : Blk wx g 24 #[.string ⟨U.toArray⟩, .slice A q.length c]
  txt : Txt wx wx.heap.size A U q
section
variable {w wx w' : World} {cs c1 c2 : Array Value} {g1 g2 : Nat}
theorem HideK.step (h : HideK w wx cs g1 g2 c1 c2) (hb : Below wx.heap.size wx w') : HideK w w' cs g1 g2 c1 c2 :=
  ⟨h.box.below hb h.box.lt, h.b1.below hb h.b1.lt, h.b2.below hb h.b2.lt, h.bl.trans (hb.mono h.bl.size)⟩
theorem HideK.alloc (h : HideK w wx cs g1 g2 c1 c2) (o : Obj) : HideK w (wx.alloc o) cs g1 g2 c1 c2 := h.step ((Below.refl _ _).alloc (Nat.le_refl _) o)
theorem HideK.set (h : HideK w wx cs g1 g2 c1 c2) {g : Nat} (h0 : w.heap.size < g) (h1 : g1 ≠ g) (h2 : g2 ≠ g) (j : Nat) (v : Value) : HideK w (wx.setCell ⟨g, j, none⟩ v) cs g1 g2 c1 c2 :=
  ⟨h.box.far (show w.heap.size ≠ g by omega) v, h.b1.far (show g1 ≠ g from h1) v, h.b2.far (show g2 ≠ g from h2) v, h.bl.setCell (show w.heap.size ≤ g by omega) v⟩
theorem row_cell_int {B : Nat} {A : Option Addr} {l : List RunP} (h : Row wx B A (flatR l)) : flatR l = [] ∨ ∃ ad, A = some ad ∧ ad.block < B ∧ ∀ j u, (flatR l)[j]? = some u → wx.cell? (ad.add j) = some u ∧ ∃ k n, u = .int k n := by
  rcases h with h | ⟨ad, e, hb, hc⟩
  · exact .inl h
  · refine .inr ⟨ad, e, hb, fun j u hj => ⟨hc j u hj, ?_⟩⟩
    have hm := List.mem_of_getElem? hj
    unfold flatR at hm
    obtain ⟨r, _, hr⟩ := List.mem_flatMap.1 hm
    simp at hr
    rcases hr with rfl | rfl
    · exact ⟨_, _, rfl⟩
    · exact ⟨_, _, rfl⟩
/-- runs do not lie in a text's variable -/
theorem row_setT {B g : Nat} {A : Option Addr} {l : List RunP} {s : ByteArray} {a : Option Addr} {n c : Nat} (h : Row wx B A (flatR l)) (hg : Blk wx g 24 #[.string s, .slice a n c]) (x y : Value) :
    Row ((wx.setCell ⟨g, 0, none⟩ x).setCell ⟨g, 1, none⟩ y) B A (flatR l) := by
  rcases row_cell_int h with h | ⟨ad, e, hb, hc⟩
  · exact .inl h
  · refine .inr ⟨ad, e, hb, fun j u hj => ?_⟩
    obtain ⟨h1, k, m, rfl⟩ := hc j u hj
    have hne : (ad.add j).block ≠ g := by
      intro hbg
      have hh : wx.heap[(ad.add j).block]? = some (.cells #[.string s, .slice a n c] 24 (0, 0)) := by rw [hbg]; exact hg
      unfold World.cell? at h1
      rw [hh] at h1
      dsimp only at h1
      rcases hoff : (ad.add j).off with _ | _ | o
      · rw [hoff] at h1; simp at h1
      · rw [hoff] at h1; simp at h1
      · rw [hoff] at h1; simp at h1
    rw [World.cell?_of_block (heap_setCell_other _ ⟨g, 1, none⟩ _ _ hne), World.cell?_of_block (heap_setCell_other _ ⟨g, 0, none⟩ _ _ hne)]
    exact h1
theorem Txt.setT {B g : Nat} {A : Option Addr} {S : List UInt8} {l : List RunP} {s : ByteArray} {a : Option Addr} {n c : Nat} (h : Txt wx B A S l) (hg : Blk wx g 24 #[.string s, .slice a n c]) (x y : Value) :
    Txt ((wx.setCell ⟨g, 0, none⟩ x).setCell ⟨g, 1, none⟩ y) B A S l := ⟨h.hS, h.hf, h.hl, row_setT h.row hg x y⟩
variable {g : Nat} {A : Option Addr} {c : Nat} {U : List UInt8} {q : List RunP}
theorem AnsK.step (h : AnsK wx g A c U q) (hb : Below wx.heap.size wx w') : AnsK w' g A c U q := ⟨h.blk.below hb h.blk.lt, (h.txt.below hb).more hb.size⟩
theorem AnsK.alloc (h : AnsK wx g A c U q) (o : Obj) : AnsK (wx.alloc o) g A c U q := h.step ((Below.refl _ _).alloc (Nat.le_refl _) o)
theorem ansK_new (h : Txt wx wx.heap.size A U q) : AnsK (wx.alloc (.cells #[.string ⟨U.toArray⟩, .slice A q.length c] 24)) wx.heap.size A c U q :=
  ⟨Blk.new _ _ _, (h.below ((Below.refl _ _).alloc (Nat.le_refl _) _)).more (by simp)⟩
theorem ansK_set {g' : Nat} {s : ByteArray} {a : Option Addr} {n d : Nat} (h : Txt wx wx.heap.size A U q) (hg : Blk wx g' 24 #[.string s, .slice a n d]) :
    AnsK ((wx.setCell ⟨g', 0, none⟩ (.string ⟨U.toArray⟩)).setCell ⟨g', 1, none⟩ (.slice A q.length c)) g' A c U q :=
  ⟨blk_two hg _ _, by have := h.setT hg (.string ⟨U.toArray⟩) (.slice A q.length c); simpa using this⟩
theorem AnsK.set {g' : Nat} {s : ByteArray} {a : Option Addr} {n d : Nat} (h : AnsK wx g A c U q) (hg : Blk wx g' 24 #[.string s, .slice a n d]) (hne : g ≠ g') (x y : Value) :
    AnsK ((wx.setCell ⟨g', 0, none⟩ x).setCell ⟨g', 1, none⟩ y) g A c U q :=
  ⟨(h.blk.far (show g ≠ g' from hne) x).far (show g ≠ g' from hne) y, by have := h.txt.setT hg x y; simpa using this⟩
end

set_option maxRecDepth 8000 in
set_option maxHeartbeats 4000000 in
theorem stripHides_walk (SS : StripSays) (w : World) (A : Option Addr) (c : Nat) (S : List UInt8) (l : List RunP) (A2 : Option Addr) (d : Nat) (X : List UInt8) (m : List RunP) (O : List UInt8) (f t : Int) (x : Nat) (h : Txt w w.heap.size A S l) (hh : Txt w w.heap.size A2 X m) (hO : O.length ≤ maxLen)
    (hf : -9223372036854775808 ≤ f ∧ f ≤ 9223372036854775807) (ht : -9223372036854775808 ≤ t ∧ t ≤ 9223372036854775807) (hx : x < 18446744073709551616) (y : Nat) (hy : y < 18446744073709551616) :
    Calls Try.prog 8 #[.agg #[.string ⟨S.toArray⟩, .slice A l.length c, .string ⟨X.toArray⟩, .slice A2 m.length d, .string ⟨O.toArray⟩, .int .i64 f, .int .i64 t, .int .u64 x], .int .u64 y] w fun e w' => e = .returned (.bool true) ∧ Below w.heap.size w w' := by
  have HS := Lib.hid SS
  have HH := Lib.hid h
  have HH2 := Lib.hid hh
  clear SS h hh
  have QB := Lib.hid (Blk.new w 54 #[.string ⟨S.toArray⟩, .slice A l.length c, .string ⟨X.toArray⟩, .slice A2 m.length d, .string ⟨O.toArray⟩, .int .i64 f, .int .i64 t, .int .u64 x])
  have NB : Hid ((w.alloc (.cells #[.string ⟨S.toArray⟩, .slice A l.length c, .string ⟨X.toArray⟩, .slice A2 m.length d, .string ⟨O.toArray⟩, .int .i64 f, .int .i64 t, .int .u64 x] 54)).heap.size = w.heap.size + 1) := Lib.hid (by simp)
  have B0 : Hid (Below w.heap.size w (w.alloc (.cells #[.string ⟨S.toArray⟩, .slice A l.length c, .string ⟨X.toArray⟩, .slice A2 m.length d, .string ⟨O.toArray⟩, .int .i64 f, .int .i64 t, .int .u64 x] 54))) := (Below.refl _ w).alloc (Nat.le_refl _) _
  by_cases hfit : S.length ≤ 5000 ∧ l.length ≤ 5000
  · by_cases hfit2 : X.length ≤ 5000 ∧ m.length ≤ 5000
    · by_cases hfit3 : O.length ≤ 5000
      · go_enter Try.func8, Try.ntmps8
        go_upto_region 5 with (first
          | (go_at_call 12; refine (strAlive_any HS.out _).mono ?_; rintro e w1 ⟨rfl, b1⟩; have z1 : w.heap.size + 1 ≤ w1.heap.size := by {have := b1.size; rw [NB.out] at this; exact this}; have B1 := B0.out.trans (b1.mono (by rw [NB.out]; omega)); have X1 := Lib.hid (QB.out.below b1 (by rw [NB.out]; omega)); obtain ⟨y0, y1, y2, y3, y4, y5, y6, y7⟩ := hide_cells X1.out; clear b1)
          | (go_at_call_of 13 l; refine (lawFits_any S HH.out.hS l HH.out.hl A c w1).mono ?_; rw [decide_eq_true hfit]; rintro e w2 ⟨rfl, b2⟩; have z2 := b2.size; have B2 := B1.trans (b2.mono (by omega)); have X2 := Lib.hid (X1.out.below b2 (by omega)); clear y0 y1 y2 y3 y4 y5 y6 y7 b2; obtain ⟨y0, y1, y2, y3, y4, y5, y6, y7⟩ := hide_cells X2.out)
          | (go_at_call_of 13 m; refine (lawFits_any X HH2.out.hS m HH2.out.hl A2 d w2).mono ?_; rw [decide_eq_true hfit2]; rintro e w3 ⟨rfl, b3⟩; have z3 := b3.size; have B3 := B2.trans (b3.mono (by omega)); have X3 := Lib.hid (X2.out.below b3 (by omega)); clear y0 y1 y2 y3 y4 y5 y6 y7 b3; obtain ⟨y0, y1, y2, y3, y4, y5, y6, y7⟩ := hide_cells X3.out))
        have KS : Hid (∀ w', Below w3.heap.size w3 w' → (w'.cell? ⟨w.heap.size, 0, none⟩ = some (.string ⟨S.toArray⟩) ∧ w'.cell? ⟨w.heap.size, 1, none⟩ = some (.slice A l.length c) ∧ w'.cell? ⟨w.heap.size, 2, none⟩ = some (.string ⟨X.toArray⟩) ∧ w'.cell? ⟨w.heap.size, 3, none⟩ = some (.slice A2 m.length d) ∧ w'.cell? ⟨w.heap.size, 4, none⟩ = some (.string ⟨O.toArray⟩)) ∧ Below w3.heap.size w3 w') := Lib.hid (fun w' hb => ⟨by obtain ⟨a0, a1, a2, a3, a4, _⟩ := hide_cells (X3.out.below hb (by omega)); exact ⟨a0, a1, a2, a3, a4⟩, hb⟩)
        obtain ⟨S', hS'⟩ : ∃ S', otherOf S l y O = S' := ⟨_, rfl⟩
        obtain ⟨X', hX'⟩ : ∃ X', otherOf X m y O = X' := ⟨_, rfl⟩
        have HS' := Lib.hid hS'
        have HX' := Lib.hid hX'
        clear hS' hX' y5 y6 y7
        go_cut [5, 6] (fun s5 s6 wx => ∃ g1 g2 : Nat, s5 = .pointer (some ⟨g1, 0, none⟩) ∧ s6 = .pointer (some ⟨g2, 0, none⟩) ∧ Below w3.heap.size w3 wx ∧ Blk wx g1 24 #[.string ⟨S'.toArray⟩, .slice A l.length c] ∧ Blk wx g2 24 #[.string ⟨X'.toArray⟩, .slice A2 m.length d])
        case first =>
          have hb0 : Below w3.heap.size w3 w3 := Below.refl _ _
          have TL : Hid (∀ w', Below w3.heap.size w3 w' → Calls Try.prog 34 #[.agg #[.string ⟨S.toArray⟩, .slice A l.length c], .int .u64 y, .string ⟨O.toArray⟩] w' fun e w'' => e = .returned (.agg #[.string ⟨S'.toArray⟩, .slice A l.length c]) ∧ Below w3.heap.size w3 w'' ∧ Below w'.heap.size w' w'') := Lib.hid (fun w' hb => by
            have hz := hb.size
            refine (refTOther_any A c w.heap.size S l y hy O hO w' (by omega) (HH.out.below (B3.trans (hb.mono (by omega))))).mono ?_
            rintro e w4 ⟨rfl, hb4⟩
            exact ⟨by rw [HS'.out], hb.trans (hb4.mono hz), hb4⟩)
          have TM : Hid (∀ w', Below w3.heap.size w3 w' → Calls Try.prog 34 #[.agg #[.string ⟨X.toArray⟩, .slice A2 m.length d], .int .u64 y, .string ⟨O.toArray⟩] w' fun e w'' => e = .returned (.agg #[.string ⟨X'.toArray⟩, .slice A2 m.length d]) ∧ Below w3.heap.size w3 w'' ∧ Below w'.heap.size w' w'') := Lib.hid (fun w' hb => by
            have hz := hb.size
            refine (refTOther_any A2 d w.heap.size X m y hy O hO w' (by omega) (HH2.out.below (B3.trans (hb.mono (by omega))))).mono ?_
            rintro e w4 ⟨rfl, hb4⟩
            exact ⟨by rw [HX'.out], hb.trans (hb4.mono hz), hb4⟩)
          go_region_held3 (fun w' => (w'.cell? ⟨w.heap.size, 0, none⟩ = some (.string ⟨S.toArray⟩) ∧ w'.cell? ⟨w.heap.size, 1, none⟩ = some (.slice A l.length c) ∧ w'.cell? ⟨w.heap.size, 2, none⟩ = some (.string ⟨X.toArray⟩) ∧ w'.cell? ⟨w.heap.size, 3, none⟩ = some (.slice A2 m.length d) ∧ w'.cell? ⟨w.heap.size, 4, none⟩ = some (.string ⟨O.toArray⟩)) ∧ Below w3.heap.size w3 w')
            ((refine KS.out _ ?_; (repeat (first | assumption | refine belowT_dr ?_ | refine belowT_al ?_ (Nat.le_refl _) | (refine Below.setCell ?_ ?_ _; rotate_left; (first | focus (simp; done) | focus (simp; omega))))); done))
            (first
              | (go_at_call_of 34 l; refine (TL.out _ ?_).mono ?_; (repeat (first | assumption | refine belowT_dr ?_ | refine belowT_al ?_ (Nat.le_refl _))); rintro e w4 ⟨rfl, hbx, hby⟩; have hzy := hbx.size; first | ((refine use_factT (knT_two_drew hby) ?_; intro a2; obtain ⟨⟨b1, b2⟩, ⟨b3, b4⟩, b5, b6, b7⟩ := knT_of a2.1; obtain ⟨⟨b8, b9⟩, ⟨b10, b11⟩, b12, b13, b14⟩ := knT_of a2.2; have A22 := Lib.hid a2; clear a2)) | ((refine use_factT (knT_one_drew hby) ?_; intro a1; obtain ⟨⟨b1, b2⟩, ⟨b3, b4⟩, b5, b6, b7⟩ := knT_of a1; have A1 := Lib.hid a1; clear a1)) | skip)
              | (go_at_call_of 34 m; refine (TM.out _ ?_).mono ?_; (repeat (first | assumption | refine belowT_dr ?_ | refine belowT_al ?_ (Nat.le_refl _))); rintro e w5 ⟨rfl, hbx, hby⟩; have hzy := hbx.size; (first | ((refine use_factT (knT_two hby) ?_; intro a2; obtain ⟨⟨b1, b2⟩, ⟨b3, b4⟩, b5, b6, b7⟩ := knT_of a2.1; obtain ⟨⟨b8, b9⟩, ⟨b10, b11⟩, b12, b13, b14⟩ := knT_of a2.2; have A3 := Lib.hid a2; clear a2)) | ((refine use_factT (knT_one hby) ?_; intro a1; obtain ⟨⟨b1, b2⟩, ⟨b3, b4⟩, b5, b6, b7⟩ := knT_of a1; have A4 := Lib.hid a1; clear a1)) | skip); (try (refine use_factT (blkT_step A1.out hby) ?_; intro a1; obtain ⟨⟨b1, b2⟩, ⟨b3, b4⟩, b5, b6, b7⟩ := knT_of a1; have A5 := Lib.hid a1; clear a1)); (try (refine use_factT (blkT_step (Blk.alloc A1.out _) hby) ?_; intro a1; obtain ⟨⟨b1, b2⟩, ⟨b3, b4⟩, b5, b6, b7⟩ := knT_of a1; have A5 := Lib.hid a1; clear a1)); (try (refine use_factT (blkT_step A22.out.1 hby) ?_; intro a1; obtain ⟨⟨b1, b2⟩, ⟨b3, b4⟩, b5, b6, b7⟩ := knT_of a1; have A6 := Lib.hid a1; clear a1)); (try (refine use_factT (blkT_step A22.out.2 hby) ?_; intro a1; obtain ⟨⟨b1, b2⟩, ⟨b3, b4⟩, b5, b6, b7⟩ := knT_of a1; have A7 := Lib.hid a1; clear a1))))
          all_goals go_wp2_with fail
          all_goals go_meet
          all_goals
            refine ⟨_, _, rfl, rfl, ?_, ?_, ?_⟩
            · repeat (first | assumption | refine belowT_dr ?_ | refine belowT_al ?_ (Nat.le_refl _) | (refine Below.setCell ?_ ?_ _; rotate_left; (first | focus (simp; done) | focus (simp; omega))))
            · repeat (first
                | with_reducible exact Blk.new _ _ _
                | with_reducible exact blkT_new1 _ _ _ _
                | with_reducible exact blkT_newS _ _ _ _ _ _ _
                | with_reducible exact A3.out.1
                | with_reducible exact A3.out.2
                | with_reducible exact A4.out
                | with_reducible exact A5.out
                | with_reducible exact A6.out
                | with_reducible exact A7.out
                | with_reducible refine blk_two (u := .string ⟨#[]⟩) (v := .slice none 0 0) ?_ _ _
                | with_reducible refine Blk.alloc ?_ _
                | (with_reducible refine Blk.far ?_ ?_ _; rotate_left; (first | focus (simp; done) | focus (simp; omega) | focus (show _ ≠ _; omega))))
            · repeat (first
                | with_reducible exact Blk.new _ _ _
                | with_reducible exact blkT_new1 _ _ _ _
                | with_reducible exact blkT_newS _ _ _ _ _ _ _
                | with_reducible exact A3.out.1
                | with_reducible exact A3.out.2
                | with_reducible exact A4.out
                | with_reducible exact A5.out
                | with_reducible exact A6.out
                | with_reducible exact A7.out
                | with_reducible refine blk_two (u := .string ⟨#[]⟩) (v := .slice none 0 0) ?_ _ _
                | with_reducible refine Blk.alloc ?_ _
                | (with_reducible refine Blk.far ?_ ?_ _; rotate_left; (first | focus (simp; done) | focus (simp; omega) | focus (show _ ≠ _; omega))))
        case rest =>
          obtain ⟨g1, g2, rfl, rfl, hbc, n1, n2⟩ := hcut
          have KC : Hid (HideK w wc #[.string ⟨S.toArray⟩, .slice A l.length c, .string ⟨X.toArray⟩, .slice A2 m.length d, .string ⟨O.toArray⟩, .int .i64 f, .int .i64 t, .int .u64 x] g1 g2 #[.string ⟨S'.toArray⟩, .slice A l.length c] #[.string ⟨X'.toArray⟩, .slice A2 m.length d]) := Lib.hid ⟨X3.out.below hbc (by omega), n1, n2, B3.trans (hbc.mono (by omega))⟩
          have hzc : w.heap.size < wc.heap.size := KC.out.box.lt
          clear hbc n1 n2 KS y0 y1 y2 y3 y4 X3 B3 B2 B1 B0 QB NB X1 X2
          have T1 : Hid (∀ wx, Below w.heap.size w wx → Txt wx w.heap.size A S l) := fun wx hb => HH.out.below hb
          have T2 : Hid (∀ wx, Below w.heap.size w wx → Txt wx w.heap.size A2 X m) := fun wx hb => HH2.out.below hb
          have T3 : Hid (∀ wx, Below w.heap.size w wx → Txt wx w.heap.size A S' l) := fun wx hb => ⟨by rw [← HS'.out, otherOf_len]; exact HH.out.hS, HH.out.hf, HH.out.hl, HH.out.row.below hb⟩
          have T4 : Hid (∀ wx, Below w.heap.size w wx → Txt wx w.heap.size A2 X' m) := fun wx hb => ⟨by rw [← HX'.out, otherOf_len]; exact HH2.out.hS, HH2.out.hf, HH2.out.hl, HH2.out.row.below hb⟩
          obtain ⟨p1, hp1⟩ : ∃ p, cutOf S l f t = p := ⟨_, rfl⟩
          have HO1 : Hid (OkT p1) := by show OkT _; rw [← hp1]; exact okT_cut HH.out.hf f t
          have HP1 := Lib.hid hp1
          obtain ⟨p2, hp2⟩ : ∃ p, cutOf S' l f t = p := ⟨_, rfl⟩
          have HO2 : Hid (OkT p2) := by show OkT _; rw [← hp2]; exact okT_cut HH.out.hf f t
          have HP2 := Lib.hid hp2
          have HL0 : Hid (LikeR p1 p2 y) := by show LikeR _ _ _; rw [← hp1, ← hp2]; exact (by have := like_cut S l y O f t; rw [HS'.out] at this; exact this)
          clear hp1
          obtain ⟨⟨U1, q1⟩, r1⟩ := p1
          clear hp2
          obtain ⟨⟨U2, q2⟩, r2⟩ := p2
          obtain ⟨p3, hp3⟩ : ∃ p, catT S l X m = p := ⟨_, rfl⟩
          have HO3 : Hid (OkT p3) := by show OkT _; rw [← hp3]; exact okT_cat HH.out.hf HH2.out.hf
          have HP3 := Lib.hid hp3
          obtain ⟨p4, hp4⟩ : ∃ p, catT S' l X' m = p := ⟨_, rfl⟩
          have HO4 : Hid (OkT p4) := by show OkT _; rw [← hp4]; exact okT_cat HH.out.hf HH2.out.hf
          have HP4 := Lib.hid hp4
          have HL1 : Hid (LikeR p3 p4 y) := by show LikeR _ _ _; rw [← hp3, ← hp4]; exact (by have := like_cat S l X m y O; rw [HS'.out, HX'.out] at this; exact this)
          clear hp3
          obtain ⟨⟨U3, q3⟩, r3⟩ := p3
          clear hp4
          obtain ⟨⟨U4, q4⟩, r4⟩ := p4
          obtain ⟨p5, hp5⟩ : ∃ p, spliceT S l f t X m = p := ⟨_, rfl⟩
          have HO5 : Hid (OkT p5) := by show OkT _; rw [← hp5]; exact okT_splice HH.out.hf HH2.out.hf f t
          have HP5 := Lib.hid hp5
          obtain ⟨p6, hp6⟩ : ∃ p, spliceT S' l f t X' m = p := ⟨_, rfl⟩
          have HO6 : Hid (OkT p6) := by show OkT _; rw [← hp6]; exact okT_splice HH.out.hf HH2.out.hf f t
          have HP6 := Lib.hid hp6
          have HL2 : Hid (LikeR p5 p6 y) := by show LikeR _ _ _; rw [← hp5, ← hp6]; exact (by have := like_splice S l X m y O f t; rw [HS'.out, HX'.out] at this; exact this)
          clear hp5
          obtain ⟨⟨U5, q5⟩, r5⟩ := p5
          clear hp6
          obtain ⟨⟨U6, q6⟩, r6⟩ := p6
          obtain ⟨p7, hp7⟩ : ∃ p, raiseT S l x = p := ⟨_, rfl⟩
          have HO7 : Hid (OkT p7) := by show OkT _; rw [← hp7]; exact okT_raise HH.out.hf hx
          have HP7 := Lib.hid hp7
          obtain ⟨p8, hp8⟩ : ∃ p, raiseT S' l x = p := ⟨_, rfl⟩
          have HO8 : Hid (OkT p8) := by show OkT _; rw [← hp8]; exact okT_raise HH.out.hf hx
          have HP8 := Lib.hid hp8
          have HL3 : Hid (LikeR p7 p8 y) := by show LikeR _ _ _; rw [← hp7, ← hp8]; exact (by have := like_raise S l y O x; rw [HS'.out] at this; exact this)
          clear hp7
          obtain ⟨⟨U7, q7⟩, r7⟩ := p7
          clear hp8
          obtain ⟨⟨U8, q8⟩, r8⟩ := p8
          have KB := KC.out.bl
          obtain ⟨y0, y1, y2, y3, y4, y5, y6, y7⟩ := hide_cells KC.out.box
          go_upto_region 7 with (go_at_call 21; refine (HS.out.cut A c w.heap.size S l f t wc KB.size (T1.out _ KB) hf ht).mono ?_; rw [HP1.out]; rintro e v1 ⟨A1x, c1x, rfl, rr, bb⟩; dsimp only at rr ⊢; have K1 := Lib.hid (KC.out.step bb); have X1 := Lib.hid (HO1.out.txt (w := v1) (B := v1.heap.size) (A := A1x) rr); have zz := bb.size; clear bb rr y0 y1 y2 y3 y4 y5 y6 y7)
          have KN := Lib.hid (K1.out.alloc (.cells #[.string ⟨U1.toArray⟩, .slice A1x q1.length c1x] 24))
          have AN := Lib.hid (ansK_new (c := c1x) X1.out)
          have h1g7 : g1 < v1.heap.size := K1.out.b1.lt
          have h2g7 : g2 < v1.heap.size := K1.out.b2.lt
          have h0g7 : w.heap.size < v1.heap.size := by omega
          clear K1 X1 KC KB zz
          generalize v1.alloc (.cells #[.string ⟨U1.toArray⟩, .slice A1x q1.length c1x] 24) = u1 at *
          generalize hgg : v1.heap.size = g7 at *
          clear hgg
          have KC1 := KN
          have a7 := AN
          clear KN AN
          have KB := KC1.out.bl
          obtain ⟨y0, y1, y2, y3, y4, y5, y6, y7⟩ := hide_cells KC1.out.box
          obtain ⟨t0, t1⟩ := txt_cells KC1.out.b1
          obtain ⟨t2, t3⟩ := txt_cells KC1.out.b2
          go_upto_region 8 with (go_at_call 21; refine (HS.out.cut A c w.heap.size S' l f t u1 KB.size (T3.out _ KB) hf ht).mono ?_; rw [HP2.out]; rintro e v2 ⟨A2x, c2x, rfl, rr, bb⟩; dsimp only at rr ⊢; have K2 := Lib.hid (KC1.out.step bb); have X2 := Lib.hid (HO2.out.txt (w := v2) (B := v2.heap.size) (A := A2x) rr); have M2 := Lib.hid (a7.out.step bb); have zz := bb.size; clear bb rr y0 y1 y2 y3 y4 y5 y6 y7 t0 t1 t2 t3)
          have KN := Lib.hid (K2.out.alloc (.cells #[.string ⟨U2.toArray⟩, .slice A2x q2.length c2x] 24))
          have AN := Lib.hid (ansK_new (c := c2x) X2.out)
          have h1g9 : g1 < v2.heap.size := K2.out.b1.lt
          have h2g9 : g2 < v2.heap.size := K2.out.b2.lt
          have AM := Lib.hid (M2.out.alloc (.cells #[.string ⟨U2.toArray⟩, .slice A2x q2.length c2x] 24))
          have h79 : g7 < v2.heap.size := M2.out.blk.lt
          have h0g9 : w.heap.size < v2.heap.size := by omega
          clear K2 X2 M2 KC1 a7 KB zz
          generalize v2.alloc (.cells #[.string ⟨U2.toArray⟩, .slice A2x q2.length c2x] 24) = u2 at *
          generalize hgg : v2.heap.size = g9 at *
          clear hgg
          have KC2 := KN
          have a7 := AM
          have a9 := AN
          clear KN AN AM
          have KB := KC2.out.bl
          obtain ⟨t0, t1⟩ := txt_cells a7.out.blk
          obtain ⟨t2, t3⟩ := txt_cells a9.out.blk
          go_upto_region 10 with (go_at_call 35; refine (strAlike_any HS.out A1x A2x c1x c2x u2.heap.size u2.heap.size U1 U2 q1 q2 r1 r2 y u2 (Nat.le_refl _) (Nat.le_refl _) a7.out.txt a9.out.txt hy HL0.out).mono ?_; rintro e x1 ⟨rfl, bb⟩; have KN := Lib.hid (KC2.out.step bb); have AN := Lib.hid (a7.out.step bb); have AM := Lib.hid (a9.out.step bb); clear KC2 a7 a9 bb KB t0 t1 t2 t3)
          have KCx1 := KN
          have a7 := AN
          have a9 := AM
          clear KN AN AM
          have KB := KCx1.out.bl
          obtain ⟨y0, y1, y2, y3, y4, y5, y6, y7⟩ := hide_cells KCx1.out.box
          go_upto_region 11 with (go_at_call 23; refine (HS.out.cat A A2 c d w.heap.size w.heap.size S X l m x1 KB.size KB.size (T1.out _ KB) (T2.out _ KB)).mono ?_; rw [HP3.out]; rintro e v3 ⟨A3x, c3x, rfl, rr, bb⟩; dsimp only at rr ⊢; have K3 := Lib.hid (KCx1.out.step bb); have X3 := Lib.hid (HO3.out.txt (w := v3) (B := v3.heap.size) (A := A3x) rr); have M3 := Lib.hid (a7.out.step bb); have N3 := Lib.hid (a9.out.step bb); obtain ⟨e0, e1, e2, e3⟩ := txt_var M3.out.blk; have zz := bb.size; clear bb rr y0 y1 y2 y3 y4 y5 y6 y7)
          have KN := Lib.hid ((K3.out.set h0g7 (show g1 ≠ g7 by omega) (show g2 ≠ g7 by omega) 0 (.string ⟨U3.toArray⟩)).set h0g7 (show g1 ≠ g7 by omega) (show g2 ≠ g7 by omega) 1 (.slice A3x q3.length c3x))
          have AN := Lib.hid (ansK_set (c := c3x) X3.out M3.out.blk)
          have AM := Lib.hid (N3.out.set M3.out.blk (by omega) (.string ⟨U3.toArray⟩) (.slice A3x q3.length c3x))
          clear K3 X3 M3 N3 KCx1 a7 a9 KB zz e0 e1 e2 e3
          generalize (v3.setCell ⟨g7, 0, none⟩ (.string ⟨U3.toArray⟩)).setCell ⟨g7, 1, none⟩ (.slice A3x q3.length c3x) = u3 at *
          have KC3 := KN
          have a7 := AN
          have a9 := AM
          clear KN AN AM
          have KB := KC3.out.bl
          obtain ⟨y0, y1, y2, y3, y4, y5, y6, y7⟩ := hide_cells KC3.out.box
          obtain ⟨t0, t1⟩ := txt_cells KC3.out.b1
          obtain ⟨t2, t3⟩ := txt_cells KC3.out.b2
          go_upto_region 12 with (go_at_call 23; refine (HS.out.cat A A2 c d w.heap.size w.heap.size S' X' l m u3 KB.size KB.size (T3.out _ KB) (T4.out _ KB)).mono ?_; rw [HP4.out]; rintro e v4 ⟨A4x, c4x, rfl, rr, bb⟩; dsimp only at rr ⊢; have K4 := Lib.hid (KC3.out.step bb); have X4 := Lib.hid (HO4.out.txt (w := v4) (B := v4.heap.size) (A := A4x) rr); have M4 := Lib.hid (a7.out.step bb); have N4 := Lib.hid (a9.out.step bb); obtain ⟨e0, e1, e2, e3⟩ := txt_var N4.out.blk; have zz := bb.size; clear bb rr y0 y1 y2 y3 y4 y5 y6 y7 t0 t1 t2 t3)
          have KN := Lib.hid ((K4.out.set h0g9 (show g1 ≠ g9 by omega) (show g2 ≠ g9 by omega) 0 (.string ⟨U4.toArray⟩)).set h0g9 (show g1 ≠ g9 by omega) (show g2 ≠ g9 by omega) 1 (.slice A4x q4.length c4x))
          have AN := Lib.hid (ansK_set (c := c4x) X4.out N4.out.blk)
          have AM := Lib.hid (M4.out.set N4.out.blk (by omega) (.string ⟨U4.toArray⟩) (.slice A4x q4.length c4x))
          clear K4 X4 M4 N4 KC3 a7 a9 KB zz e0 e1 e2 e3
          generalize (v4.setCell ⟨g9, 0, none⟩ (.string ⟨U4.toArray⟩)).setCell ⟨g9, 1, none⟩ (.slice A4x q4.length c4x) = u4 at *
          have KC4 := KN
          have a7 := AM
          have a9 := AN
          clear KN AN AM
          have KB := KC4.out.bl
          obtain ⟨t0, t1⟩ := txt_cells a7.out.blk
          obtain ⟨t2, t3⟩ := txt_cells a9.out.blk
          go_upto_region 14 with (go_at_call 35; refine (strAlike_any HS.out A3x A4x c3x c4x u4.heap.size u4.heap.size U3 U4 q3 q4 r3 r4 y u4 (Nat.le_refl _) (Nat.le_refl _) a7.out.txt a9.out.txt hy HL1.out).mono ?_; rintro e x3 ⟨rfl, bb⟩; have KN := Lib.hid (KC4.out.step bb); have AN := Lib.hid (a7.out.step bb); have AM := Lib.hid (a9.out.step bb); clear KC4 a7 a9 bb KB t0 t1 t2 t3)
          have KCx3 := KN
          have a7 := AN
          have a9 := AM
          clear KN AN AM
          have KB := KCx3.out.bl
          obtain ⟨y0, y1, y2, y3, y4, y5, y6, y7⟩ := hide_cells KCx3.out.box
          go_upto_region 15 with (go_at_call 27; refine (HS.out.splice A A2 c d w.heap.size w.heap.size S X l m f t x3 KB.size KB.size (T1.out _ KB) (T2.out _ KB) hf ht).mono ?_; rw [HP5.out]; rintro e v5 ⟨A5x, c5x, rfl, rr, bb⟩; dsimp only at rr ⊢; have K5 := Lib.hid (KCx3.out.step bb); have X5 := Lib.hid (HO5.out.txt (w := v5) (B := v5.heap.size) (A := A5x) rr); have M5 := Lib.hid (a7.out.step bb); have N5 := Lib.hid (a9.out.step bb); obtain ⟨e0, e1, e2, e3⟩ := txt_var M5.out.blk; have zz := bb.size; clear bb rr y0 y1 y2 y3 y4 y5 y6 y7)
          have KN := Lib.hid ((K5.out.set h0g7 (show g1 ≠ g7 by omega) (show g2 ≠ g7 by omega) 0 (.string ⟨U5.toArray⟩)).set h0g7 (show g1 ≠ g7 by omega) (show g2 ≠ g7 by omega) 1 (.slice A5x q5.length c5x))
          have AN := Lib.hid (ansK_set (c := c5x) X5.out M5.out.blk)
          have AM := Lib.hid (N5.out.set M5.out.blk (by omega) (.string ⟨U5.toArray⟩) (.slice A5x q5.length c5x))
          clear K5 X5 M5 N5 KCx3 a7 a9 KB zz e0 e1 e2 e3
          generalize (v5.setCell ⟨g7, 0, none⟩ (.string ⟨U5.toArray⟩)).setCell ⟨g7, 1, none⟩ (.slice A5x q5.length c5x) = u5 at *
          have KC5 := KN
          have a7 := AN
          have a9 := AM
          clear KN AN AM
          have KB := KC5.out.bl
          obtain ⟨y0, y1, y2, y3, y4, y5, y6, y7⟩ := hide_cells KC5.out.box
          obtain ⟨t0, t1⟩ := txt_cells KC5.out.b1
          obtain ⟨t2, t3⟩ := txt_cells KC5.out.b2
          go_upto_region 16 with (go_at_call 27; refine (HS.out.splice A A2 c d w.heap.size w.heap.size S' X' l m f t u5 KB.size KB.size (T3.out _ KB) (T4.out _ KB) hf ht).mono ?_; rw [HP6.out]; rintro e v6 ⟨A6x, c6x, rfl, rr, bb⟩; dsimp only at rr ⊢; have K6 := Lib.hid (KC5.out.step bb); have X6 := Lib.hid (HO6.out.txt (w := v6) (B := v6.heap.size) (A := A6x) rr); have M6 := Lib.hid (a7.out.step bb); have N6 := Lib.hid (a9.out.step bb); obtain ⟨e0, e1, e2, e3⟩ := txt_var N6.out.blk; have zz := bb.size; clear bb rr y0 y1 y2 y3 y4 y5 y6 y7 t0 t1 t2 t3)
          have KN := Lib.hid ((K6.out.set h0g9 (show g1 ≠ g9 by omega) (show g2 ≠ g9 by omega) 0 (.string ⟨U6.toArray⟩)).set h0g9 (show g1 ≠ g9 by omega) (show g2 ≠ g9 by omega) 1 (.slice A6x q6.length c6x))
          have AN := Lib.hid (ansK_set (c := c6x) X6.out N6.out.blk)
          have AM := Lib.hid (M6.out.set N6.out.blk (by omega) (.string ⟨U6.toArray⟩) (.slice A6x q6.length c6x))
          clear K6 X6 M6 N6 KC5 a7 a9 KB zz e0 e1 e2 e3
          generalize (v6.setCell ⟨g9, 0, none⟩ (.string ⟨U6.toArray⟩)).setCell ⟨g9, 1, none⟩ (.slice A6x q6.length c6x) = u6 at *
          have KC6 := KN
          have a7 := AM
          have a9 := AN
          clear KN AN AM
          have KB := KC6.out.bl
          obtain ⟨t0, t1⟩ := txt_cells a7.out.blk
          obtain ⟨t2, t3⟩ := txt_cells a9.out.blk
          go_upto_region 18 with (go_at_call 35; refine (strAlike_any HS.out A5x A6x c5x c6x u6.heap.size u6.heap.size U5 U6 q5 q6 r5 r6 y u6 (Nat.le_refl _) (Nat.le_refl _) a7.out.txt a9.out.txt hy HL2.out).mono ?_; rintro e x5 ⟨rfl, bb⟩; have KN := Lib.hid (KC6.out.step bb); have AN := Lib.hid (a7.out.step bb); have AM := Lib.hid (a9.out.step bb); clear KC6 a7 a9 bb KB t0 t1 t2 t3)
          have KCx5 := KN
          have a7 := AN
          have a9 := AM
          clear KN AN AM
          have KB := KCx5.out.bl
          obtain ⟨y0, y1, y2, y3, y4, y5, y6, y7⟩ := hide_cells KCx5.out.box
          go_upto_region 19 with (go_at_call 25; refine (HS.out.raise A c w.heap.size S l x x5 KB.size (T1.out _ KB) hx).mono ?_; rw [HP7.out]; rintro e v7 ⟨A7x, c7x, rfl, rr, bb⟩; dsimp only at rr ⊢; have K7 := Lib.hid (KCx5.out.step bb); have X7 := Lib.hid (HO7.out.txt (w := v7) (B := v7.heap.size) (A := A7x) rr); have M7 := Lib.hid (a7.out.step bb); have N7 := Lib.hid (a9.out.step bb); obtain ⟨e0, e1, e2, e3⟩ := txt_var M7.out.blk; have zz := bb.size; clear bb rr y0 y1 y2 y3 y4 y5 y6 y7)
          have KN := Lib.hid ((K7.out.set h0g7 (show g1 ≠ g7 by omega) (show g2 ≠ g7 by omega) 0 (.string ⟨U7.toArray⟩)).set h0g7 (show g1 ≠ g7 by omega) (show g2 ≠ g7 by omega) 1 (.slice A7x q7.length c7x))
          have AN := Lib.hid (ansK_set (c := c7x) X7.out M7.out.blk)
          have AM := Lib.hid (N7.out.set M7.out.blk (by omega) (.string ⟨U7.toArray⟩) (.slice A7x q7.length c7x))
          clear K7 X7 M7 N7 KCx5 a7 a9 KB zz e0 e1 e2 e3
          generalize (v7.setCell ⟨g7, 0, none⟩ (.string ⟨U7.toArray⟩)).setCell ⟨g7, 1, none⟩ (.slice A7x q7.length c7x) = u7 at *
          have KC7 := KN
          have a7 := AN
          have a9 := AM
          clear KN AN AM
          have KB := KC7.out.bl
          obtain ⟨y0, y1, y2, y3, y4, y5, y6, y7⟩ := hide_cells KC7.out.box
          obtain ⟨t0, t1⟩ := txt_cells KC7.out.b1
          obtain ⟨t2, t3⟩ := txt_cells KC7.out.b2
          go_upto_region 20 with (go_at_call 25; refine (HS.out.raise A c w.heap.size S' l x u7 KB.size (T3.out _ KB) hx).mono ?_; rw [HP8.out]; rintro e v8 ⟨A8x, c8x, rfl, rr, bb⟩; dsimp only at rr ⊢; have K8 := Lib.hid (KC7.out.step bb); have X8 := Lib.hid (HO8.out.txt (w := v8) (B := v8.heap.size) (A := A8x) rr); have M8 := Lib.hid (a7.out.step bb); have N8 := Lib.hid (a9.out.step bb); obtain ⟨e0, e1, e2, e3⟩ := txt_var N8.out.blk; have zz := bb.size; clear bb rr y0 y1 y2 y3 y4 y5 y6 y7 t0 t1 t2 t3)
          have KN := Lib.hid ((K8.out.set h0g9 (show g1 ≠ g9 by omega) (show g2 ≠ g9 by omega) 0 (.string ⟨U8.toArray⟩)).set h0g9 (show g1 ≠ g9 by omega) (show g2 ≠ g9 by omega) 1 (.slice A8x q8.length c8x))
          have AN := Lib.hid (ansK_set (c := c8x) X8.out N8.out.blk)
          have AM := Lib.hid (M8.out.set N8.out.blk (by omega) (.string ⟨U8.toArray⟩) (.slice A8x q8.length c8x))
          clear K8 X8 M8 N8 KC7 a7 a9 KB zz e0 e1 e2 e3
          generalize (v8.setCell ⟨g9, 0, none⟩ (.string ⟨U8.toArray⟩)).setCell ⟨g9, 1, none⟩ (.slice A8x q8.length c8x) = u8 at *
          have KC8 := KN
          have a7 := AM
          have a9 := AN
          clear KN AN AM
          have KB := KC8.out.bl
          obtain ⟨t0, t1⟩ := txt_cells a7.out.blk
          obtain ⟨t2, t3⟩ := txt_cells a9.out.blk
          go_wp2_with (go_at_call 35; refine (strAlike_any HS.out A7x A8x c7x c8x u8.heap.size u8.heap.size U7 U8 q7 q8 r7 r8 y u8 (Nat.le_refl _) (Nat.le_refl _) a7.out.txt a9.out.txt hy HL3.out).mono ?_; rintro e x7 ⟨rfl, bb⟩; have KN := Lib.hid (KC8.out.step bb); have AN := Lib.hid (a7.out.step bb); have AM := Lib.hid (a9.out.step bb); clear KC8 a7 a9 bb KB t0 t1 t2 t3)
          go_ret
          exact ⟨rfl, KN.out.bl⟩
      · have hbig : (5000 : Int) < (O.length : Int) := by omega
        go_enter Try.func8, Try.ntmps8
        go_wp2_with (first
          | (go_at_call 12; refine (strAlive_any HS.out _).mono ?_; rintro e w1 ⟨rfl, b1⟩; have z1 : w.heap.size + 1 ≤ w1.heap.size := by {have := b1.size; rw [NB.out] at this; exact this}; have B1 := B0.out.trans (b1.mono (by rw [NB.out]; omega)); have X1 := Lib.hid (QB.out.below b1 (by rw [NB.out]; omega)); obtain ⟨y0, y1, y2, y3, y4, y5, y6, y7⟩ := hide_cells X1.out; clear b1)
          | (go_at_call_of 13 l; refine (lawFits_any S HH.out.hS l HH.out.hl A c w1).mono ?_; rw [decide_eq_true hfit]; rintro e w2 ⟨rfl, b2⟩; have z2 := b2.size; have B2 := B1.trans (b2.mono (by omega)); have X2 := Lib.hid (X1.out.below b2 (by omega)); clear y0 y1 y2 y3 y4 y5 y6 y7 b2; obtain ⟨y0, y1, y2, y3, y4, y5, y6, y7⟩ := hide_cells X2.out)
          | (go_at_call_of 13 m; refine (lawFits_any X HH2.out.hS m HH2.out.hl A2 d w2).mono ?_; rw [decide_eq_true hfit2]; rintro e w3 ⟨rfl, b3⟩; have z3 := b3.size; have B3 := B2.trans (b3.mono (by omega)); have X3 := Lib.hid (X2.out.below b3 (by omega)); clear y0 y1 y2 y3 y4 y5 y6 y7 b3; obtain ⟨y0, y1, y2, y3, y4, y5, y6, y7⟩ := hide_cells X3.out))
        go_ret
        exact ⟨rfl, B3⟩
    · go_enter Try.func8, Try.ntmps8
      go_wp2_with (first
        | (go_at_call 12; refine (strAlive_any HS.out _).mono ?_; rintro e w1 ⟨rfl, b1⟩; have z1 : w.heap.size + 1 ≤ w1.heap.size := by {have := b1.size; rw [NB.out] at this; exact this}; have B1 := B0.out.trans (b1.mono (by rw [NB.out]; omega)); have X1 := Lib.hid (QB.out.below b1 (by rw [NB.out]; omega)); obtain ⟨y0, y1, y2, y3, y4, y5, y6, y7⟩ := hide_cells X1.out; clear b1)
        | (go_at_call_of 13 l; refine (lawFits_any S HH.out.hS l HH.out.hl A c w1).mono ?_; rw [decide_eq_true hfit]; rintro e w2 ⟨rfl, b2⟩; have z2 := b2.size; have B2 := B1.trans (b2.mono (by omega)); have X2 := Lib.hid (X1.out.below b2 (by omega)); clear y0 y1 y2 y3 y4 y5 y6 y7 b2; obtain ⟨y0, y1, y2, y3, y4, y5, y6, y7⟩ := hide_cells X2.out)
        | (go_at_call_of 13 m; refine (lawFits_any X HH2.out.hS m HH2.out.hl A2 d w2).mono ?_; rw [decide_eq_false hfit2]; rintro e w3 ⟨rfl, b3⟩; have z3 := b3.size; have B3 := B2.trans (b3.mono (by omega)); have X3 := Lib.hid (X2.out.below b3 (by omega)); clear y0 y1 y2 y3 y4 y5 y6 y7 b3; obtain ⟨y0, y1, y2, y3, y4, y5, y6, y7⟩ := hide_cells X3.out))
      go_ret
      exact ⟨rfl, B3⟩
  · go_enter Try.func8, Try.ntmps8
    go_wp2_with (first
      | (go_at_call 12; refine (strAlive_any HS.out _).mono ?_; rintro e w1 ⟨rfl, b1⟩; have z1 : w.heap.size + 1 ≤ w1.heap.size := by {have := b1.size; rw [NB.out] at this; exact this}; have B1 := B0.out.trans (b1.mono (by rw [NB.out]; omega)); have X1 := Lib.hid (QB.out.below b1 (by rw [NB.out]; omega)); obtain ⟨y0, y1, y2, y3, y4, y5, y6, y7⟩ := hide_cells X1.out; clear b1)
      | (go_at_call_of 13 l; refine (lawFits_any S HH.out.hS l HH.out.hl A c w1).mono ?_; rw [decide_eq_false hfit]; rintro e w2 ⟨rfl, b2⟩; have z2 := b2.size; have B2 := B1.trans (b2.mono (by omega)); have X2 := Lib.hid (X1.out.below b2 (by omega)); clear y0 y1 y2 y3 y4 y5 y6 y7 b2; obtain ⟨y0, y1, y2, y3, y4, y5, y6, y7⟩ := hide_cells X2.out))
    go_ret
    exact ⟨rfl, B2⟩
end Go.Proofs.Ytliapookpefgiaa

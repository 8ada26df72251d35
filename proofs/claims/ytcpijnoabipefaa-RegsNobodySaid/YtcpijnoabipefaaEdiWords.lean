/-
  Words for edits in memory: what stays while memory only grows; an edit's variable; an edit as an answer: layer 7.
-/
import Derived.Test.YtcpijnoabipefaaEdiMath
namespace Go.Proofs.Ytcpijnoabipefaa
open Go.RowKit

section
variable {w wx w1 : World} {F G : World → Prop}
/-- what holds in this world, and in each that only has more memory -/
def Grow (wx : World) (F : World → Prop) : Prop := ∀ w', Below wx.heap.size wx w' → F w'
theorem Grow.now (h : Grow wx F) : F wx := h wx (Below.refl _ _)
theorem Grow.step (h : Grow wx F) (hb : Below wx.heap.size wx w1) : Grow w1 F := fun w' h1 => h w' (hb.trans (h1.mono hb.size))
theorem Grow.and (h : Grow wx F) (k : Grow wx G) : Grow wx (fun w' => F w' ∧ G w') := fun w' h1 => ⟨h w' h1, k w' h1⟩
theorem Grow.alloc (h : Grow wx F) (o : Obj) : Grow (wx.alloc o) F := h.step ((Below.refl _ _).alloc (Nat.le_refl _) o)
theorem Grow.drewN (h : Grow wx F) (n : Nat) : Grow (wx.drewN n) F := h.step (below_drewN (Below.refl _ _) n)
theorem grow_blk {g T : Nat} {cs : Array Value} (h : Blk wx g T cs) : Grow wx (fun w' => Blk w' g T cs) := fun _ hb => h.below hb h.lt
theorem grow_bel (h : Below w.heap.size w wx) : Grow wx (fun w' => Below w.heap.size w w') := fun _ hb => h.trans (hb.mono h.size)
/-- a text that is held in memory as it is -/
def Txu (w : World) (A : Option Addr) (S : List UInt8) (l : List RunP) : Prop := Txt w w.heap.size A S l
theorem grow_txu {A : Option Addr} {S : List UInt8} {l : List RunP} (h : Txu wx A S l) : Grow wx (fun w' => Txu w' A S l) := fun _ hb => (Txt.below h hb).more hb.size
theorem grow_pure {p : Prop} (h : p) : Grow wx (fun _ => p) := fun _ _ => h
/-- a row of which no cell lies in block g -/
def RowN (w : World) (g : Nat) (A : Option Addr) (xs : List Value) : Prop := xs = [] ∨ ∃ ad, A = some ad ∧ ad.block ≠ g ∧ ad.block < w.heap.size ∧ ∀ j u, xs[j]? = some u → w.cell? (ad.add j) = some u
theorem rowN_own {base e size n c g : Nat} {A : Option Addr} {xs : List Value} (h : w.ownsRow base e size (.slice A n c) n xs) (hg : g < base) : RowN w g A xs := by
  rcases A with _ | ad
  · rcases h.2 with ⟨_, hn⟩ | ⟨k, cap, cur, hv, _⟩
    · left; exact List.eq_nil_of_length_eq_zero (by rw [h.1, hn]; simp)
    · cases hv
  · right
    have hl := h.lt ad.block rfl
    rcases h.2 with ⟨hv, _⟩ | ⟨k, cap, cur, hv, _⟩
    · cases hv
    · injection hv with hv1
      injection hv1 with hv1
      subst hv1
      exact ⟨_, rfl, by show k ≠ g; have := hl.1; dsimp only at this; omega, hl.2, h.cells (g := k) rfl⟩
theorem rowN_row {B g : Nat} {A : Option Addr} {xs : List Value} (h : Row w B A xs) (hB : B ≤ w.heap.size) (hg : B ≤ g) : RowN w g A xs := by
  rcases h with h | ⟨ad, e, hb, hc⟩
  · exact .inl h
  · exact .inr ⟨ad, e, by omega, by omega, hc⟩
theorem RowN.set {g : Nat} {A : Option Addr} {xs : List Value} (h : RowN w g A xs) (i : Nat) (u : Value) : RowN (w.setCell ⟨g, i, none⟩ u) g A xs := by
  rcases h with h | ⟨ad, e, hn, hb, hc⟩
  · exact .inl h
  · refine .inr ⟨ad, e, hn, by simpa using hb, fun j v hj => ?_⟩
    rw [World.cell?_of_block (heap_setCell_other _ ⟨g, i, none⟩ _ _ (by rw [add_block]; exact hn))]
    exact hc j v hj
theorem RowN.row {g : Nat} {A : Option Addr} {xs : List Value} (h : RowN w g A xs) : Row w w.heap.size A xs := by
  rcases h with h | ⟨ad, e, hn, hb, hc⟩
  · exact .inl h
  · exact .inr ⟨ad, e, hb, hc⟩
theorem grow_rowN {g : Nat} {A : Option Addr} {xs : List Value} (h : RowN wx g A xs) : Grow wx (fun w' => RowN w' g A xs) := by
  intro w' hb
  rcases h with h | ⟨ad, e, hn, hl, hc⟩
  · exact .inl h
  · exact .inr ⟨ad, e, hn, Nat.lt_of_lt_of_le hl hb.size, fun j u hj => (hb.cell (p := ad.add j) (by rw [add_block]; exact hl)).trans (hc j u hj)⟩
/-- a row whose cells lie in blocks from b on -/
def RowG (w : World) (b : Nat) (A : Option Addr) (xs : List Value) : Prop := xs = [] ∨ ∃ ad, A = some ad ∧ b ≤ ad.block ∧ ad.block < w.heap.size ∧ ∀ j u, xs[j]? = some u → w.cell? (ad.add j) = some u
theorem rowG_own {base e size n c : Nat} {A : Option Addr} {xs : List Value} (h : w.ownsRow base e size (.slice A n c) n xs) : RowG w base A xs := by
  rcases A with _ | ad
  · rcases h.2 with ⟨_, hn⟩ | ⟨k, cap, cur, hv, _⟩
    · left; exact List.eq_nil_of_length_eq_zero (by rw [h.1, hn]; simp)
    · cases hv
  · right
    have hl := h.lt ad.block rfl
    rcases h.2 with ⟨hv, _⟩ | ⟨k, cap, cur, hv, _⟩
    · cases hv
    · injection hv with hv1
      injection hv1 with hv1
      subst hv1
      exact ⟨_, rfl, hl.1, hl.2, h.cells (g := k) rfl⟩
theorem RowG.toN {b g : Nat} {A : Option Addr} {xs : List Value} (h : RowG w b A xs) (hg : g < b) : RowN w g A xs := by
  rcases h with h | ⟨ad, e, hb, hl, hc⟩
  · exact .inl h
  · exact .inr ⟨ad, e, by omega, hl, hc⟩
theorem RowG.less {b b' : Nat} {A : Option Addr} {xs : List Value} (h : RowG w b A xs) (hb' : b' ≤ b) : RowG w b' A xs := by
  rcases h with h | ⟨ad, e, hb, hl, hc⟩
  · exact .inl h
  · exact .inr ⟨ad, e, by omega, hl, hc⟩
theorem RowG.set {b g : Nat} {A : Option Addr} {xs : List Value} (h : RowG w b A xs) (hg : g < b) (i : Nat) (u : Value) : RowG (w.setCell ⟨g, i, none⟩ u) b A xs := by
  rcases h with h | ⟨ad, e, hn, hb, hc⟩
  · exact .inl h
  · refine .inr ⟨ad, e, hn, by simpa using hb, fun j v hj => ?_⟩
    rw [World.cell?_of_block (heap_setCell_other _ ⟨g, i, none⟩ _ _ (by rw [add_block]; show ad.block ≠ g; omega))]
    exact hc j v hj
theorem RowG.five {b g : Nat} {A : Option Addr} {xs : List Value} (h : RowG w b A xs) (hg : g < b) (v x y z u : Value) :
    RowG (((((w.setCell ⟨g, 0, none⟩ v).setCell ⟨g, 1, none⟩ x).setCell ⟨g, 2, none⟩ y).setCell ⟨g, 3, none⟩ z).setCell ⟨g, 4, none⟩ u) b A xs := ((((h.set hg 0 v).set hg 1 x).set hg 2 y).set hg 3 z).set hg 4 u
theorem RowG.row {b : Nat} {A : Option Addr} {xs : List Value} (h : RowG w b A xs) : Row w w.heap.size A xs := by
  rcases h with h | ⟨ad, e, hn, hb, hc⟩
  · exact .inl h
  · exact .inr ⟨ad, e, hb, hc⟩
theorem grow_rowG {b : Nat} {A : Option Addr} {xs : List Value} (h : RowG wx b A xs) : Grow wx (fun w' => RowG w' b A xs) := by
  intro w' hb
  rcases h with h | ⟨ad, e, hn, hl, hc⟩
  · exact .inl h
  · exact .inr ⟨ad, e, hn, Nat.lt_of_lt_of_le hl hb.size, fun j u hj => (hb.cell (p := ad.add j) (by rw [add_block]; exact hl)).trans (hc j u hj)⟩

/-- the five cells of an edit's variable -/
theorem ed_cells {g T : Nat} {a b c d e : Value} (h : Blk w g T #[a, b, c, d, e]) : w.cell? ⟨g, 0, none⟩ = some a ∧ w.cell? ⟨g, 1, none⟩ = some b ∧ w.cell? ⟨g, 2, none⟩ = some c ∧ w.cell? ⟨g, 3, none⟩ = some d ∧ w.cell? ⟨g, 4, none⟩ = some e :=
  ⟨by have := h.cell 0; simpa using this, by have := h.cell 1; simpa using this, by have := h.cell 2; simpa using this, by have := h.cell 3; simpa using this, by have := h.cell 4; simpa using this⟩
theorem ed_frozen {g T : Nat} {cs : Array Value} (h : Blk w g T cs) : w.frozen? ⟨g, 0, none⟩ = false ∧ w.frozen? ⟨g, 1, none⟩ = false ∧ w.frozen? ⟨g, 2, none⟩ = false ∧ w.frozen? ⟨g, 3, none⟩ = false ∧ w.frozen? ⟨g, 4, none⟩ = false :=
  ⟨h.frozen 0, h.frozen 1, h.frozen 2, h.frozen 3, h.frozen 4⟩
theorem ed_var {g T : Nat} {a b c d e : Value} (h : Blk w g T #[a, b, c, d, e]) : (w.cell? ⟨g, 0, none⟩ = some a ∧ w.cell? ⟨g, 1, none⟩ = some b ∧ w.cell? ⟨g, 2, none⟩ = some c ∧ w.cell? ⟨g, 3, none⟩ = some d ∧ w.cell? ⟨g, 4, none⟩ = some e) ∧ w.frozen? ⟨g, 0, none⟩ = false ∧ w.frozen? ⟨g, 1, none⟩ = false ∧ w.frozen? ⟨g, 2, none⟩ = false ∧ w.frozen? ⟨g, 3, none⟩ = false ∧ w.frozen? ⟨g, 4, none⟩ = false :=
  ⟨ed_cells h, ed_frozen h⟩
theorem blk_five {g T : Nat} {a b c d e : Value} (h : Blk w g T #[a, b, c, d, e]) (v x y z u : Value) :
    Blk (((((w.setCell ⟨g, 0, none⟩ v).setCell ⟨g, 1, none⟩ x).setCell ⟨g, 2, none⟩ y).setCell ⟨g, 3, none⟩ z).setCell ⟨g, 4, none⟩ u) g T #[v, x, y, z, u] := by
  have := ((((h.set_ 0 v).set_ 1 x).set_ 2 y).set_ 3 z).set_ 4 u
  simpa using this
theorem blk_box {T : Nat} {cs : Array Value} (w : World) : Grow (w.alloc (.cells cs T)) (fun w' => Blk w' w.heap.size T cs) := grow_blk (Blk.new w T cs)
theorem bel_box (h : Below w.heap.size w wx) (o : Obj) : Grow (wx.alloc o) (fun w' => Below w.heap.size w w') := grow_bel (h.alloc h.size o)
end

/-- an edit and a number are the answer -/
def GivesE (w : World) (r : EdP × Nat) (e : Ending) (w' : World) : Prop :=
  ∃ A c A2 d, e = .returned (.tuple #[.agg #[.int .i64 r.1.a, .string ⟨r.1.S.toArray⟩, .slice A r.1.l.length c, .string ⟨r.1.X.toArray⟩, .slice A2 r.1.m.length d], .int .i64 (r.2 : Nat)]) ∧ Row w' w'.heap.size A (flatR r.1.l) ∧ Row w' w'.heap.size A2 (flatR r.1.m) ∧ Below w.heap.size w w'
/-- .. and the edit's runs lie in memory that is new -/
def GivesEN (w : World) (r : EdP × Nat) (e : Ending) (w' : World) : Prop :=
  ∃ A c A2 d, e = .returned (.tuple #[.agg #[.int .i64 r.1.a, .string ⟨r.1.S.toArray⟩, .slice A r.1.l.length c, .string ⟨r.1.X.toArray⟩, .slice A2 r.1.m.length d], .int .i64 (r.2 : Nat)]) ∧ RowG w' w.heap.size A (flatR r.1.l) ∧ RowG w' w.heap.size A2 (flatR r.1.m) ∧ Below w.heap.size w w'
theorem GivesEN.gives {w w' : World} {r : EdP × Nat} {e : Ending} (h : GivesEN w r e w') : GivesE w r e w' := by
  obtain ⟨A, c, A2, d, he, h1, h2, hb⟩ := h
  exact ⟨A, c, A2, d, he, h1.row, h2.row, hb⟩
/-- an edit and a truth value -/
def GivesEB (w : World) (r : EdP × Bool) (e : Ending) (w' : World) : Prop :=
  ∃ A c A2 d, e = .returned (.tuple #[.agg #[.int .i64 r.1.a, .string ⟨r.1.S.toArray⟩, .slice A r.1.l.length c, .string ⟨r.1.X.toArray⟩, .slice A2 r.1.m.length d], .bool r.2]) ∧ Row w' w'.heap.size A (flatR r.1.l) ∧ Row w' w'.heap.size A2 (flatR r.1.m) ∧ Below w.heap.size w w'
/-- an edit alone -/
def GivesE1 (w : World) (a : Int) (S : List UInt8) (l : List RunP) (X : List UInt8) (m : List RunP) (e : Ending) (w' : World) : Prop :=
  ∃ A c A2 d, e = .returned (.agg #[.int .i64 a, .string ⟨S.toArray⟩, .slice A l.length c, .string ⟨X.toArray⟩, .slice A2 m.length d]) ∧ Row w' w'.heap.size A (flatR l) ∧ Row w' w'.heap.size A2 (flatR m) ∧ Below w.heap.size w w'
/-- a text alone -/
def GivesT1 (w : World) (S : List UInt8) (l : List RunP) (e : Ending) (w' : World) : Prop :=
  ∃ A c, e = .returned (.agg #[.string ⟨S.toArray⟩, .slice A l.length c]) ∧ w'.ownsRow w.heap.size 58 2 (.slice A l.length c) l.length (flatR l) ∧ Below w.heap.size w w'
end Go.Proofs.Ytcpijnoabipefaa

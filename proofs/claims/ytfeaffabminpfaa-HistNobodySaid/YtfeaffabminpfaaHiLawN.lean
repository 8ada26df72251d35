/-
  A history that no call made answers an error, and has nothing; what was handed in, or answered, may be written over: layer 8.
-/
import Derived.Test.YtfeaffabminpfaaHiAlive
import Derived.Test.YtfeaffabminpfaaHiNob
import Derived.Test.YtfeaffabminpfaaHsOpenA
import Derived.Laws.OwnMore
namespace Go.Proofs.Ytfeaffabminpfaa
open Go.RowKit

/-- a history of two states -/
structure Two (w : World) (p b base : Nat) (G : List StP) (now : Int) : Prop where
  h : Hst w p b G 3 now 1
  inv : InvS G now 1 3
  low : p < base ∧ b < base
  two : ∃ s, G = [firstS, s] ∧ s.n = 1 ∧ s.up = 0 ∧ s.e.a = 0 ∧ s.e.S = [] ∧ s.e.l = [] ∧ s.e.X = [97] ∧ s.e.m = [(1, 1)] ∧ RowG w base s.e.A (flatR s.e.l) ∧ RowG w base s.e.B (flatR s.e.m)
section
variable {w w' : World} {p b base : Nat} {G : List StP} {now : Int}
theorem two_new {A2 B2 : Option Addr} {c2 d2 : Nat} (h : Hx w p b G 3 (0 + 1) (0 + 1)) (hl : p < base ∧ b < base) (ha : AddTo ([firstS] ++ [⟨0 + 1, 0, ⟨0, [], A2, [], c2, [97], B2, [(1, 1)], d2⟩⟩]) 3 (0 + 1) G) (r1 : RowG w base A2 (flatR [])) (r2 : RowG w base B2 (flatR [(1, 1)])) : Two w p b base G 1 := by
  refine ⟨h.h, h.inv, hl, ?_⟩
  rcases ha with ⟨_, rfl⟩ | ⟨hl, _⟩
  · exact ⟨_, rfl, rfl, rfl, rfl, rfl, rfl, rfl, rfl, r1, r2⟩
  · simp at hl
theorem Two.hx (h : Two w p b base G now) : Hx w p b G 3 now 1 := by
  refine ⟨h.h, h.inv, by decide, by decide, fun s hs => ?_⟩
  obtain ⟨x, rfl, _, _, _, _, e1, _, e2, _⟩ := h.two
  rcases List.mem_cons.1 hs with rfl | hs
  · exact ⟨Nat.zero_le _, Nat.zero_le _⟩
  · rw [List.mem_singleton.1 hs, e1, e2]; exact ⟨Nat.zero_le _, by simp⟩
/-- older blocks are written -/
theorem Two.tch {P : Nat → Prop} (h : Two w p b base G now) (hc : Tch P w w') (hP : ∀ k, P k → k < base ∧ k ≠ p ∧ k ≠ b) : Two w' p b base G now := by
  have hb : ∀ k, base ≤ k → ¬ P k := fun k hk hp => by have := hP k hp; omega
  have hpb : ∀ k, base ≤ k → ¬ PB p b k := fun k hk hp => by have := h.low; rcases hp with e | e <;> omega
  obtain ⟨s, rfl, e1, e2, e3, e4, e5, e6, e7, r1, r2⟩ := h.two
  have q1 := r1.tch hc hb
  have q2 := r2.tch hc hb
  refine ⟨⟨h.h.blk.tch hc (fun hp => (hP _ hp).2.1 rfl), h.h.map.keep (hc.block b h.h.map.lt (fun hp => (hP _ hp).2.2 rfl)), fun x hx => ?_⟩, h.inv, h.low, s, rfl, e1, e2, e3, e4, e5, e6, e7, q1, q2⟩
  rcases List.mem_cons.1 hx with rfl | hx
  · exact ⟨⟨Nat.zero_le _, by intro x hx; simp [firstS, zeroE] at hx, Nat.zero_le _, .inl rfl⟩, ⟨Nat.zero_le _, by intro x hx; simp [firstS, zeroE] at hx, Nat.zero_le _, .inl rfl⟩⟩
  · obtain rfl := List.mem_singleton.1 hx
    have ht := h.h.eds x (by simp)
    exact ⟨⟨ht.1.hS, ht.1.hf, ht.1.hl, RowO.of_rowG q1 hpb⟩, ⟨ht.2.hS, ht.2.hf, ht.2.hl, RowO.of_rowG q2 hpb⟩⟩
/-- the present state is another one -/
theorem Two.again {now' : Int} (h : Two w p b base G now) (hc : Tch (fun k => k = p) w w') (hb : Blk w' p 67 #[.int .i64 3, .int .i64 now', .int .i64 1, .map (some b)]) (hi : InvS G now' 1 3) : Two w' p b base G now' := by
  obtain ⟨s, e0, e1, e2, e3, e4, e5, e6, e7, r1, r2⟩ := h.two
  have hP : ∀ k, base ≤ k → ¬ k = p := fun k hk e => by have := h.low; omega
  exact ⟨h.h.again hc hb, hi, h.low, s, e0, e1, e2, e3, e4, e5, e6, e7, r1.tch hc hP, r2.tch hc hP⟩
theorem Two.undo (h : Two w p b base G 1) : InvS G 0 1 3 ∧ Calls Try.prog 12 #[.pointer (some ⟨p, 0, none⟩)] w (GivesU w p b G 3 1 0 0 [97] [(1, 1)] [] []) := by
  obtain ⟨s, hs, hn, hc⟩ := h.hx.undo
  obtain ⟨x, e, e1, e2, e3, e4, e5, e6, e7, _⟩ := h.two
  have hx : s = x := by
    rw [e] at hs
    rcases List.mem_cons.1 hs with rfl | hs
    · exact absurd hn (by decide)
    · exact List.mem_singleton.1 hs
  subst hx
  rw [e2, e3, e4, e5, e6, e7] at hc
  rcases hc with ⟨hu, _⟩ | ⟨_, _, hi, hc⟩
  · exact absurd hu (by decide)
  · exact ⟨hi, hc⟩
theorem Two.redo (h : Two w p b base G 0) : Calls Try.prog 15 #[.pointer (some ⟨p, 0, none⟩)] w (GivesU w p b G 3 1 1 0 [] [] [97] [(1, 1)]) := by
  obtain ⟨x, e, e1, e2, e3, e4, e5, e6, e7, _⟩ := h.two
  rcases h.hx.redo with ⟨hno, _⟩ | ⟨s, hs, hu, _, _, hc⟩
  · exact absurd e2 (hno x (by rw [e]; simp))
  · have hx : s = x := by
      rw [e] at hs
      rcases List.mem_cons.1 hs with rfl | hs
      · exact absurd hu (by decide)
      · exact List.mem_singleton.1 hs
    subst hx
    rw [e1, e3, e4, e5, e6, e7] at hc
    exact hc
end
theorem row_one (w : World) (r T x : Nat) (n : Int) (hb : Blk w r T #[.int .u64 (x : Nat), .int .i64 n]) : Row w w.heap.size (some ⟨r, 0, none⟩) (flatR [(x, n)]) := by
  refine .inr ⟨_, rfl, hb.lt, fun j u hj => ?_⟩
  have h0 : w.cell? ⟨r, 0, none⟩ = some (.int .u64 (x : Nat)) := by have := hb.cell 0; simpa using this
  have h1 : w.cell? ⟨r, 1, none⟩ = some (.int .i64 n) := by have := hb.cell 1; simpa using this
  match j, hj with
  | 0, hj => simp [flatR] at hj; subst hj; exact h0
  | 1, hj => simp [flatR] at hj; subst hj; exact h1
  | j + 2, hj => simp [flatR] at hj
theorem txt_one (w : World) (r T : Nat) (hb : Blk w r T #[.int .u64 (1 : Nat), .int .i64 1]) : Txu w (some ⟨r, 0, none⟩) [97] [(1, 1)] :=
  ⟨by simp [maxLen], by intro r hr; simp at hr; subst hr; simp, by simp [maxLen], row_one w r T 1 1 hb⟩
theorem txt_own {w : World} {base : Nat} {A : Option Addr} {c : Nat} (h : OwnR w base A c [(1, 1)]) : Txu w A [97] [(1, 1)] :=
  ⟨by simp [maxLen], by intro r hr; simp at hr; subst hr; simp, by simp [maxLen], h.rowG.row⟩
theorem pair_cells {w : World} {g T : Nat} {u v : Value} (h : Blk w g T #[u, v]) : w.cell? ⟨g, 0, none⟩ = some u ∧ w.cell? ⟨g, 1, none⟩ = some v :=
  ⟨by have := h.cell 0; simpa using this, by have := h.cell 1; simpa using this⟩
theorem boxN (w : World) (c8 : Array Value) (T : TypeId) : Grow (w.alloc (.cells c8 T)) (fun w' => Blk w' w.heap.size T c8 ∧ Below w.heap.size w w') :=
  (blk_box w).and (grow_bel ((Below.refl _ w).alloc (Nat.le_refl _) _))
theorem OwnR.some_ {w : World} {base : Nat} {A : Option Addr} {c : Nat} (h : OwnR w base A c [(1, 1)]) : ∃ g, A = some ⟨g, 0, none⟩ ∧ base ≤ g ∧ w.cell? ⟨g, 1, none⟩ = some (.int .i64 1) ∧ w.frozen? ⟨g, 1, none⟩ = false := by
  obtain ⟨g, rfl⟩ : ∃ g, A = some ⟨g, 0, none⟩ := by
    rcases h.2 with ⟨_, h⟩ | ⟨g, cap, cur, h, _⟩
    · cases h
    · injection h with h1; exact ⟨g, h1⟩
  have e1 := h.cellAt 1 (by simp)
  simp [flatR] at e1
  exact ⟨g, rfl, (h.lt g rfl).1, e1, h.frozenAt 1⟩
theorem ints_some {w : World} {base : Nat} {A : Option Addr} {c : Nat} (h : w.ownsRow base 3 1 (.slice A 2 c) 2 [.int .i64 0, .int .i64 1]) : ∃ g, A = some ⟨g, 0, none⟩ ∧ base ≤ g ∧ w.cell? ⟨g, 0, none⟩ = some (.int .i64 0) ∧ w.frozen? ⟨g, 0, none⟩ = false := by
  obtain ⟨g, rfl⟩ : ∃ g, A = some ⟨g, 0, none⟩ := by
    rcases h.2 with ⟨_, h⟩ | ⟨g, cap, cur, h, _⟩
    · cases h
    · injection h with h1; exact ⟨g, h1⟩
  have e1 := h.cellAt 0 (by simp)
  simp at e1
  exact ⟨g, rfl, (h.lt g rfl).1, e1, h.frozenAt 0⟩

set_option maxRecDepth 100000 in
set_option maxHeartbeats 8000000 in
theorem histNobody_walk (w : World) (r : ActE) (_ha : ActEOk w r) :
    Calls Try.prog 7 #[.agg r.cells.toArray] w fun e w' => e = .returned (.bool true) ∧ Below w.heap.size w w' := by
  clear _ha
  obtain ⟨kind, ⟨a, S, A, l, c, X, B, m, d⟩, fork⟩ := r
  dsimp only [ActE.cells] at *
  have K := Lib.hid (boxN w #[.int .u8 kind, .int .i64 a, .string ⟨S.toArray⟩, .slice A l.length c, .string ⟨X.toArray⟩, .slice B m.length d, .bool fork] 36)
  go_enter Try.func7, Try.ntmps7
  go_upto_region 3 with (go_at_call 8; refine (aliveH_any _).mono ?_; rintro e w1 ⟨rfl, b1⟩)
  have K1 := Lib.hid (K.out.step b1)
  clear b1 K
  go_upto_region 4 with (fail)
  have K2 := Lib.hid ((boxesE2 w1 67 24 #[.int .i64 0, .int .i64 0, .int .i64 0, .map none] #[.pointer none, .pointer (some ⟨w1.heap.size, 0, none⟩)]).and ((K1.out.alloc _).alloc _))
  clear K1
  generalize (w1.alloc (.cells #[.int .i64 0, .int .i64 0, .int .i64 0, .map none] 67)).alloc (.cells #[.pointer none, .pointer (some ⟨w1.heap.size, 0, none⟩)] 24) = w2 at *
  go_loopw [25] (fun i wr => ∃ k : Nat, k ≤ 2 ∧ i = .int .i64 k ∧ Below w2.heap.size w2 wr) (fun i _ => 2 - (intOf i).toNat)
  case atStart => exact ⟨0, by omega, rfl, Below.refl _ _⟩
  case round =>
    obtain ⟨k, hk, rfl, hb⟩ := hrel
    by_cases hlt : k < 2
    · obtain ⟨v, hv, hn⟩ : ∃ v, wr.cell? ⟨w1.heap.size + 1, k, none⟩ = some v ∧ NobH wr v := by
        have h2 := (K2.out.step hb).now.1
        rcases (by omega : k = 0 ∨ k = 1) with rfl | rfl
        · exact ⟨_, (pair_cells h2.2.1).1, .inl rfl⟩
        · exact ⟨_, (pair_cells h2.2.1).2, .inr ⟨_, rfl, h2.1⟩⟩
      have KR := Lib.hid ((K2.out.step hb).and ((grow_nobH hn).and (grow_bel hb)))
      clear hn hb K2
      obtain ⟨c0, c1, c2, c3, c4, c5, c6⟩ := st_cells KR.out.now.1.2.1
      rcases (by omega : k = 0 ∨ k = 1) with rfl | rfl
      all_goals
        go_upto_region 7 with (go_at_call 17; refine (nobHAdd_any KR.out.now.2.1 a ⟨S.toArray⟩ ⟨X.toArray⟩ A B l.length c m.length d).mono ?_; rintro e w3 ⟨rfl, b3⟩)
        have K3 := Lib.hid (KR.out.step b3)
        clear c0 c1 c2 c3 c4 c5 c6 b3 KR hv
        go_upto_region 8 with (go_at_call 12; refine (nobHUndo_any K3.out.now.2.1).mono ?_; rintro e w4 ⟨rfl, b4⟩)
        have K4 := Lib.hid ((boxN w4 #[.int .i64 0, .string ⟨#[]⟩, .slice none 0 0, .string ⟨#[]⟩, .slice none 0 0] 34).and ((K3.out.step b4).alloc _))
        clear b4 K3
        generalize w4.alloc (.cells #[.int .i64 0, .string ⟨#[]⟩, .slice none 0 0, .string ⟨#[]⟩, .slice none 0 0] 34) = wx at *
        go_upto_region 9 with (go_at_call 15; refine (nobHRedo_any K4.out.now.2.2.1).mono ?_; rintro e w5 ⟨rfl, b5⟩)
        have K5 := Lib.hid ((boxN w5 #[.int .i64 0, .string ⟨#[]⟩, .slice none 0 0, .string ⟨#[]⟩, .slice none 0 0] 34).and ((K4.out.step b5).alloc _))
        clear b5 K4
        generalize w5.alloc (.cells #[.int .i64 0, .string ⟨#[]⟩, .slice none 0 0, .string ⟨#[]⟩, .slice none 0 0] 34) = wy at *
        obtain ⟨y0, y1, y2, y3, y4⟩ := ed_cells K5.out.now.2.1.1
        go_wp2_with (first
          | (go_at_call 14; refine (refESame_any none none none none 0 0 0 0 0 [] [] [] [] _ (txu_none _) (txu_none _) (txu_none _) (txu_none _)).mono ?_; rintro e w6 ⟨rfl, b6⟩; have K5 := Lib.hid (K5.out.step b6); clear b6; obtain ⟨y0, y1, y2, y3, y4⟩ := ed_cells K5.out.now.1.1)
          | (go_at_call 19; refine (nobHNow_any K5.out.now.2.2.2.1).mono ?_; rintro e w7 ⟨rfl, rfl⟩)
          | (go_at_call 21; refine (nobHStates_any K5.out.now.2.2.2.1).mono ?_; rintro e w7 ⟨rfl, rfl⟩)
          | (go_at_call 23; refine (nobHPath_any K5.out.now.2.2.2.1).mono ?_; rintro e w7 ⟨rfl, rfl⟩)
          | (go_at_call 29; refine (nobHCopy_any K5.out.now.2.2.2.1).mono ?_; rintro e w7 ⟨rfl, rfl⟩))
        go_roundw
        case rel => first | exact ⟨1, by omega, by go_num, K5.out.now.2.2.2.2⟩ | exact ⟨2, by omega, by go_num, K5.out.now.2.2.2.2⟩
        case measure => simp [intOf]
    · obtain rfl : k = 2 := by omega
      have BR := Lib.hid ((K2.out.step hb).now.2.2)
      clear K2 hb
      have zr := BR.out.size
      go_wp2_with fail
      refine (hiNew_any 3 (by decide) wr).mono ?_
      rintro e w3 ⟨p, b, rfl, hp, hb, h3, b3⟩
      have z3 := b3.size
      have hpl := h3.blk.lt
      have hbl := h3.map.lt
      have GX : Grow w3 (fun w' => Hx w' p b [firstS] 3 0 0) := fun w' hb => (hx_new (by decide) h3).fresh hb
      have K4 := Lib.hid ((boxN w3 #[.int .u64 1, .int .i64 1] 71).and ((GX.and (grow_bel (BR.out.trans (b3.mono zr)))).alloc _))
      have hz4 : (w3.alloc (.cells #[.int .u64 1, .int .i64 1] 71)).heap.size = w3.heap.size + 1 := by simp
      clear h3 b3 BR GX
      go_upto_region 16 with (fail)
      generalize w3.alloc (.cells #[.int .u64 1, .int .i64 1] 71) = w4 at *
      go_upto_region 17 with (go_at_call 17; refine (K4.out.now.2.1.add (a := 0) (S := []) (A1 := none) (l := []) (c1 := 0) (X := [97]) (B1 := some ⟨w3.heap.size, 0, none⟩) (m := [(1, 1)]) (d := 1) (by omega) (txu_none _) (txt_one w4 w3.heap.size _ K4.out.now.1.1) (by decide +kernel) (Nat.zero_le _) (by simp)).mono ?_; rintro e w5 ⟨A5, c5, B5, d5, G, rfl, h5, t5, a5, r5, r6⟩)
      have T5 := Lib.hid (two_new h5 ⟨by omega, by omega⟩ a5 r5 r6)
      have G5 := Lib.hid (K4.out.now.1.1.tch t5 (fun hp => by rcases hp with e | e <;> omega))
      have B5 := Lib.hid (K4.out.now.2.2.trans (t5.below K4.out.now.2.2.size (fun k hk => by rcases hk with e | e <;> omega)))
      have z5 := t5.size
      clear h5 t5 a5 r5 r6 K4
      obtain ⟨x0, x1⟩ := pair_cells G5.out
      have x2 := G5.out.frozen 1
      go_upto_region 20 with fail
      have T6 := Lib.hid (T5.out.tch ((Tch.refl (fun k => k = w3.heap.size) w5).setCell (p := ⟨w3.heap.size, 1, none⟩) (fun _ => rfl) (.int .i64 9)) (fun k hk => by omega))
      have B6 := Lib.hid (B5.out.setCell (p := ⟨w3.heap.size, 1, none⟩) (show w.heap.size ≤ w3.heap.size by omega) (.int .i64 9))
      clear x0 x1 x2 T5 G5 B5
      have z6 : (w5.setCell ⟨w3.heap.size, 1, none⟩ (.int .i64 9)).heap.size = w5.heap.size := by simp
      generalize w5.setCell ⟨w3.heap.size, 1, none⟩ (.int .i64 9) = w6 at *
      have hG : G.map StP.n = [0, 1] ∧ G.length = 2 := by
        obtain ⟨s, rfl, e1, _⟩ := T6.out.two
        exact ⟨by rw [← e1]; rfl, rfl⟩
      have ST := Lib.hid (hiStates_any T6.out.h (by omega) T6.out.inv.hup)
      rw [hG.1] at ST
      go_upto_region 21 with (go_at_call 21; refine ST.out.mono ?_; rintro e w7 ⟨A7, c7, rfl, o7, b7⟩; obtain ⟨g7, rfl, hg7, u0, u1⟩ := ints_some o7)
      have b8 := b7.setCell (p := ⟨g7, 0, none⟩) hg7 (.int .i64 9)
      have T8 := Lib.hid (T6.out.tch (Tch.fresh (P := fun _ => False) b8) (fun _ h => h.elim))
      have B8 := Lib.hid (B6.out.trans (b8.mono B6.out.size))
      have z8 := b8.size
      clear o7 b7 u0 u1 b8 T6 B6 ST
      generalize w7.setCell ⟨g7, 0, none⟩ (.int .i64 9) = w8 at *
      have HU := Lib.hid T8.out.undo
      go_upto_region 22 with (go_at_call 12; refine HU.out.2.mono ?_; rintro e w9 ⟨A9, c9, B9, d9, rfl, h9, o9, p9, t9⟩; obtain ⟨g9, rfl, hg9, u0, u1⟩ := o9.some_)
      have GT : Grow w9 (fun w' => Tch (fun k => k = p) w8 w') := fun w' hb => t9.trans (Tch.fresh hb)
      have K10 := Lib.hid ((boxN w9 #[.int .i64 0, .string ⟨#[97]⟩, .slice (some ⟨g9, 0, none⟩) 1 c9, .string ⟨#[]⟩, .slice B9 0 d9] 34).and (((grow_ownR o9).and ((grow_blk h9.blk).and GT)).alloc _))
      have z9 := t9.size
      clear h9 o9 p9 t9 u0 u1 GT
      have z10 : w9.heap.size < (w9.alloc (.cells #[.int .i64 0, .string ⟨#[97]⟩, .slice (some ⟨g9, 0, none⟩) 1 c9, .string ⟨#[]⟩, .slice B9 0 d9] 34)).heap.size := by simp
      generalize w9.alloc (.cells #[.int .i64 0, .string ⟨#[97]⟩, .slice (some ⟨g9, 0, none⟩) 1 c9, .string ⟨#[]⟩, .slice B9 0 d9] 34) = w10 at *
      have K11 := Lib.hid ((boxN w10 #[.int .u64 1, .int .i64 1] 71).and (K10.out.alloc _))
      obtain ⟨y0, y1, y2, y3, y4⟩ := ed_cells K10.out.now.1.1
      go_upto_region 24 with (go_at_call 28; refine (refTSame_any (some ⟨g9, 0, none⟩) (some ⟨w10.heap.size, 0, none⟩) c9 1 _ _ [97] [97] [(1, 1)] [(1, 1)] _ (Nat.le_refl _) (Nat.le_refl _) (txt_own K11.out.now.2.2.1) (txt_one _ w10.heap.size _ K11.out.now.1.1)).mono ?_; rw [decide_eq_true ⟨rfl, rfl⟩]; rintro e w12 ⟨rfl, b12⟩)
      have K12 := Lib.hid (K11.out.step b12)
      clear y0 y1 y2 y3 y4 b12 K11 K10
      obtain ⟨y0, y1, y2, y3, y4⟩ := ed_cells K12.out.now.2.1.1
      obtain ⟨g', e', _, u0, u1⟩ := K12.out.now.2.2.1.some_
      obtain rfl : g9 = g' := by injection e' with e'; injection e'
      clear e'
      go_upto_region 25 with fail
      have T13 := Lib.hid (T8.out.again (K12.out.now.2.2.2.2.setCell (p := ⟨g9, 1, none⟩) (fun h => by have h' : g9 < w8.heap.size := h; omega) (.int .i64 7)) (K12.out.now.2.2.2.1.far (p := ⟨g9, 1, none⟩) (show p ≠ g9 by omega) (.int .i64 7)) HU.out.1)
      have B13 := Lib.hid (B8.out.trans ((K12.out.now.2.2.2.2.setCell (p := ⟨g9, 1, none⟩) (fun h => by have h' : g9 < w8.heap.size := h; omega) (.int .i64 7)).below B8.out.size (fun k hk => by omega)))
      clear y0 y1 y2 y3 y4 u0 u1 K12 HU T8 B8
      generalize w12.setCell ⟨g9, 1, none⟩ (.int .i64 7) = w13 at *
      have HR := Lib.hid T13.out.redo
      go_upto_region 26 with (go_at_call 15; refine HR.out.mono ?_; rintro e w14 ⟨A14, c14, B14, d14, rfl, h14, p14, o14, t14⟩)
      have K15 := Lib.hid ((boxN w14 #[.int .i64 0, .string ⟨#[]⟩, .slice A14 0 c14, .string ⟨#[97]⟩, .slice B14 1 d14] 34).and (((grow_ownR o14).and (grow_bel (B13.out.trans (t14.below B13.out.size (fun k hk => by omega))))).alloc _))
      clear h14 p14 o14 t14
      generalize w14.alloc (.cells #[.int .i64 0, .string ⟨#[]⟩, .slice A14 0 c14, .string ⟨#[97]⟩, .slice B14 1 d14] 34) = w15 at *
      have K16 := Lib.hid ((boxN w15 #[.int .u64 1, .int .i64 1] 71).and (K15.out.alloc _))
      obtain ⟨y0, y1, y2, y3, y4⟩ := ed_cells K15.out.now.1.1
      go_wp2_with (go_at_call 28; refine (refTSame_any B14 (some ⟨w15.heap.size, 0, none⟩) d14 1 _ _ [97] [97] [(1, 1)] [(1, 1)] _ (Nat.le_refl _) (Nat.le_refl _) (txt_own K16.out.now.2.2.1) (txt_one _ w15.heap.size _ K16.out.now.1.1)).mono ?_; rw [decide_eq_true ⟨rfl, rfl⟩]; rintro e w17 ⟨rfl, b17⟩)
      go_ret
      exact ⟨rfl, (K16.out.step b17).now.2.2.2⟩
end Go.Proofs.Ytfeaffabminpfaa

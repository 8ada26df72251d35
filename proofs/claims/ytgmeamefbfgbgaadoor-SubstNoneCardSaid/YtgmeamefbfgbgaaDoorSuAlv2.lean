/-
  Answers of package subst that the document fixes: layer 15.
-/
import Derived.Test.YtgmeamefbfgbgaaDoorSuAliv
namespace Go.Proofs.YtgmeamefbfgbgaaDoor
open Go.RowKit
set_option maxRecDepth 100000

theorem alS_1 : (subS [97, 97, 98, 10, 97, 97] [(1, 6)] 1 0 1 [97] [120, 121] true).2 = 0 ∧ (subS [97, 97, 98, 10, 97, 97] [(1, 6)] 1 0 1 [97] [120, 121] true).1.2 = 4 ∧ (subS [97, 97, 98, 10, 97, 97] [(1, 6)] 1 0 1 [97] [120, 121] true).1.1.X = [120, 121, 120, 121, 98, 10, 120, 121, 120, 121] := by decide +kernel
theorem alS_2 : (subS [97, 97, 98, 10, 97, 97] [(1, 6)] 1 1 1 [98] [] false).2 = 6 := by decide +kernel
set_option maxHeartbeats 4000000 in
theorem aliveS_any (w : World) (KS : SubstSays w) : Calls Tryd.prog 9 #[] w fun e w' => e = .returned (.bool true) ∧ Below w.heap.size w w' := by
  obtain ⟨a1, a2, a3⟩ := alS_1
  have b1 := alS_2
  have HS := Lib.hid KS
  clear KS
  obtain ⟨r1, hr1⟩ : ∃ r, subS [97, 97, 98, 10, 97, 97] [(1, 6)] 1 0 1 [97] [120, 121] true = r := ⟨_, rfl⟩
  obtain ⟨r2, hr2⟩ : ∃ r, subS [97, 97, 98, 10, 97, 97] [(1, 6)] 1 1 1 [98] [] false = r := ⟨_, rfl⟩
  rw [hr1] at a1 a2 a3
  rw [hr2] at b1
  have HR1 := Lib.hid hr1
  have HR2 := Lib.hid hr2
  clear hr1 hr2
  obtain ⟨⟨⟨ea1, ES1, el1, EX1, em1⟩, q1⟩, n1⟩ := r1
  obtain ⟨⟨⟨ea2, ES2, el2, EX2, em2⟩, q2⟩, n2⟩ := r2
  dsimp only at a1 a2 a3 b1
  subst a1 a2 a3 b1
  have HD1 : Hid (∀ wx A c, Below w.heap.size w wx → Txu wx A [97, 97, 98, 10, 97, 97] [(1, 6)] → Calls Tryd.prog 11 #[.agg #[.string ⟨#[97, 97, 98, 10, 97, 97]⟩, .slice A 1 c], .int .u64 1, .agg #[.int .i64 0, .int .i64 1, .string ⟨#[97]⟩, .string ⟨#[120, 121]⟩, .bool true]] wx fun e w' => ∃ A4 c4 B4 d4, e = .returned (.tuple #[.agg #[.int .i64 ea1, .string ⟨ES1.toArray⟩, .slice A4 el1.length c4, .string ⟨#[120, 121, 120, 121, 98, 10, 120, 121, 120, 121]⟩, .slice B4 em1.length d4], .int .i64 4, .int .i64 0]) ∧ Below wx.heap.size wx w') := fun wx A c hb hx => by
    have := HS.out.do_ A c [97, 97, 98, 10, 97, 97] [(1, 6)] 1 0 1 [97] [120, 121] true wx hb hx (by decide) (by decide) (by decide) (by decide) (by decide) (by decide) (by decide)
    rw [HR1.out] at this
    refine this.mono ?_
    rintro e w' ⟨A4, c4, B4, d4, rfl, _, _, bb⟩
    exact ⟨A4, c4, B4, d4, rfl, bb⟩
  have HD2 : Hid (∀ wx A c, Below w.heap.size w wx → Txu wx A [97, 97, 98, 10, 97, 97] [(1, 6)] → Calls Tryd.prog 11 #[.agg #[.string ⟨#[97, 97, 98, 10, 97, 97]⟩, .slice A 1 c], .int .u64 1, .agg #[.int .i64 1, .int .i64 1, .string ⟨#[98]⟩, .string ⟨#[]⟩, .bool false]] wx fun e w' => ∃ A4 c4 B4 d4, e = .returned (.tuple #[.agg #[.int .i64 ea2, .string ⟨ES2.toArray⟩, .slice A4 el2.length c4, .string ⟨EX2.toArray⟩, .slice B4 em2.length d4], .int .i64 (q2 : Nat), .int .i64 6]) ∧ Below wx.heap.size wx w') := fun wx A c hb hx => by
    have := HS.out.do_ A c [97, 97, 98, 10, 97, 97] [(1, 6)] 1 1 1 [98] [] false wx hb hx (by decide) (by decide) (by decide) (by decide) (by decide) (by decide) (by decide)
    rw [HR2.out] at this
    refine this.mono ?_
    rintro e w' ⟨A4, c4, B4, d4, rfl, _, _, bb⟩
    exact ⟨A4, c4, B4, d4, rfl, bb⟩
  clear HS HR1 HR2
  have TX : Hid (Txu (w.alloc (.cells #[.int .u64 1, .int .i64 6] 51)) (some ⟨w.heap.size, 0, none⟩) [97, 97, 98, 10, 97, 97] [(1, 6)]) := ⟨by unfold maxLen; decide, by intro r hr; simp at hr; subst hr; simp, by unfold maxLen; decide, by have := row_newL w 51 [.int .u64 1, .int .i64 6]; simpa [flatR] using this⟩
  have B0 : Below w.heap.size w (w.alloc (.cells #[.int .u64 1, .int .i64 6] 51)) := (Below.refl _ _).alloc (Nat.le_refl _) _
  go_enter Tryd.func9, Tryd.ntmps9
  go_upto_region 2 with fail
  have Kt := grow_new (w.alloc (.cells #[.int .u64 1, .int .i64 6] 51)) 24 #[.string ⟨#[97, 97, 98, 10, 97, 97]⟩, .slice (some ⟨w.heap.size, 0, none⟩) 1 1]
  rw [World.size_alloc] at Kt
  have Kx := Grow.alloc (grow_txu TX.out) (.cells #[.string ⟨#[97, 97, 98, 10, 97, 97]⟩, .slice (some ⟨w.heap.size, 0, none⟩) 1 1] 24)
  have Kb : Grow ((w.alloc (.cells #[.int .u64 1, .int .i64 6] 51)).alloc (.cells #[.string ⟨#[97, 97, 98, 10, 97, 97]⟩, .slice (some ⟨w.heap.size, 0, none⟩) 1 1] 24)) (fun w' => Below w.heap.size w w') := fun w' hb => (B0.alloc B0.size _).trans (hb.mono ((B0.alloc B0.size _).size))
  have K := Lib.hid (Kt.and (Kx.and Kb))
  clear Kt Kx Kb TX B0
  generalize (w.alloc (.cells #[.int .u64 1, .int .i64 6] 51)).alloc (.cells #[.string ⟨#[97, 97, 98, 10, 97, 97]⟩, .slice (some ⟨w.heap.size, 0, none⟩) 1 1] 24) = wb at *
  obtain ⟨y0, y1⟩ := txt_cells K.out.now.1
  go_upto_region 3 with (go_at_call 11; refine (HD1.out _ _ _ K.out.now.2.2 K.out.now.2.1).mono ?_; rintro e w2 ⟨A1, c1, B1, d1, rfl, bb⟩; have K2 := Lib.hid (((K.out.step bb).alloc (.cells #[.int .i64 ea1, .string ⟨ES1.toArray⟩, .slice A1 el1.length c1, .string ⟨#[120, 121, 120, 121, 98, 10, 120, 121, 120, 121]⟩, .slice B1 em1.length d1] 32)).and (grow_new w2 32 #[.int .i64 ea1, .string ⟨ES1.toArray⟩, .slice A1 el1.length c1, .string ⟨#[120, 121, 120, 121, 98, 10, 120, 121, 120, 121]⟩, .slice B1 em1.length d1])); clear bb y0 y1)
  generalize w2.heap.size = h1 at *
  generalize w2.alloc (.cells #[.int .i64 ea1, .string ⟨ES1.toArray⟩, .slice A1 el1.length c1, .string ⟨#[120, 121, 120, 121, 98, 10, 120, 121, 120, 121]⟩, .slice B1 em1.length d1] 32) = w3 at *
  obtain ⟨y0, y1⟩ := txt_cells K2.out.now.1.1
  clear K HD1
  go_upto_region 4 with (go_at_call 11; refine (HD2.out _ _ _ K2.out.now.1.2.2 K2.out.now.1.2.1).mono ?_; rintro e w4 ⟨A2, c2, B2, d2, rfl, bb⟩; have K3 := Lib.hid ((K2.out.step bb).alloc (.cells #[.int .i64 ea2, .string ⟨ES2.toArray⟩, .slice A2 el2.length c2, .string ⟨EX2.toArray⟩, .slice B2 em2.length d2] 32)); clear bb y0 y1)
  generalize w4.heap.size = h2 at *
  generalize w4.alloc (.cells #[.int .i64 ea2, .string ⟨ES2.toArray⟩, .slice A2 el2.length c2, .string ⟨EX2.toArray⟩, .slice B2 em2.length d2] 32) = w5 at *
  obtain ⟨v0, v1, v2, v3, v4⟩ := ed_cells K3.out.now.2
  go_wp2_with fail
  go_ret
  exact ⟨rfl, K3.out.now.1.2.2⟩
end Go.Proofs.YtgmeamefbfgbgaaDoor

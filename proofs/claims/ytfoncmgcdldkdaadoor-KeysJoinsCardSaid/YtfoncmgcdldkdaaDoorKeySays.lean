/-
  What package keys answers (to be proved of the landed one); answers that the document fixes: layer 10.
-/
import Derived.Test.YtfoncmgcdldkdaaDoorKeyParse
namespace Go.Proofs.YtfoncmgcdldkdaaDoor
open Go.RowKit

/-- in every world that only has more than w0 -/
structure KeySays (w0 : World) : Prop where
  may : ∀ (r : Int) (w : World), Below w0.heap.size w0 w → (-2147483648 ≤ r ∧ r ≤ 2147483647) → Calls Tryd.prog 8 #[.int .i32 r] w fun e w' => e = .returned (.bool (decide (keyK r))) ∧ Below w.heap.size w w'
  print : ∀ (A : Option Addr) (c B : Nat) (zs : List Int) (w : World), Below w0.heap.size w0 w → B ≤ w.heap.size → (∀ z ∈ zs, -2147483648 ≤ z ∧ z ≤ 2147483647) → zs.length ≤ 1000000 → Row w B A (zs.map runz) →
    Calls Tryd.prog 11 #[.slice A zs.length c] w (GivesSN w (printA zs))
  parse : ∀ (S : List UInt8) (w : World), Below w0.heap.size w0 w → S.length ≤ 1000000 → Calls Tryd.prog 13 #[.string ⟨S.toArray⟩] w (GivesLN w (parseA S))

theorem KeySays.at {w0 w : World} (KS : KeySays w0) (h : Below w0.heap.size w0 w) : KeySays w where
  may := fun r w' b => KS.may r w' (h.trans (b.mono h.size))
  print := fun A c B zs w' b => KS.print A c B zs w' (h.trans (b.mono h.size))
  parse := fun S w' b => KS.parse S w' (h.trans (b.mono h.size))

theorem alive_print : printA [58, 119, 13, 60] = ([58, 119, 60, 67, 82, 62, 60, 108, 116, 62], 0) := by decide +kernel
theorem alive_parse : parseA [60, 67, 45, 97, 62, 60, 69, 115, 99, 62, 120] = ([1, 27, 120], 0) := by decide +kernel
theorem alive_may : decide (keyK 27) = true := by decide
theorem alive_row (w : World) (zs : List Int) (cs : Array Value) (h : cs = (zs.map runz).toArray) : Row (w.alloc (.cells cs 21)) (w.alloc (.cells cs 21)).heap.size (some ⟨w.heap.size, 0, none⟩) (zs.map runz) := by
  subst h
  exact (row_newL w 21 (zs.map runz)).more (by simp)
theorem alive_printed (w : World) (KS : KeySays w) : Calls Tryd.prog 11 #[.slice (some ⟨w.heap.size, 0, none⟩) 4 4] (w.alloc (.cells #[.int .i32 58, .int .i32 119, .int .i32 13, .int .i32 60] 21)) fun e w' => e = .returned (.tuple #[.string ⟨#[58, 119, 60, 67, 82, 62, 60, 108, 116, 62]⟩, .int .i64 0]) ∧ Below w.heap.size w w' := by
  have h := KS.print (some ⟨w.heap.size, 0, none⟩) 4 _ [58, 119, 13, 60] (w.alloc (.cells #[.int .i32 58, .int .i32 119, .int .i32 13, .int .i32 60] 21)) ((Below.refl _ w).alloc (Nat.le_refl _) _) (Nat.le_refl _) (by decide) (by decide) (alive_row w [58, 119, 13, 60] _ rfl)
  rw [alive_print] at h
  have b0 : Below w.heap.size w (w.alloc (.cells #[.int .i32 58, .int .i32 119, .int .i32 13, .int .i32 60] 21)) := (Below.refl _ w).alloc (Nat.le_refl _) _
  refine h.mono ?_
  rintro e w' ⟨rfl, hb⟩
  exact ⟨rfl, b0.trans (hb.mono b0.size)⟩
theorem alive_parsed (w : World) (KS : KeySays w) : Calls Tryd.prog 13 #[.string ⟨#[60, 67, 45, 97, 62, 60, 69, 115, 99, 62, 120]⟩] w fun e w' => ∃ A c, e = .returned (.tuple #[.slice A 3 c, .int .i64 0]) ∧ Row w' w'.heap.size A (([1, 27, 120] : List Int).map runz) ∧ Below w.heap.size w w' := by
  have h := KS.parse [60, 67, 45, 97, 62, 60, 69, 115, 99, 62, 120] w (Below.refl _ w) (by decide)
  rw [alive_parse] at h
  exact h
theorem alive_same (w : World) (A : Option Addr) (c : Nat) (h : Row w w.heap.size A (([1, 27, 120] : List Int).map runz)) : Calls Tryd.prog 15 #[.slice A 3 c, .slice (some ⟨w.heap.size, 0, none⟩) 3 3] (w.alloc (.cells #[.int .i32 1, .int .i32 27, .int .i32 120] 21)) fun e w' => e = .returned (.bool true) ∧ Below w.heap.size w w' := by
  have b0 : Below w.heap.size w (w.alloc (.cells #[.int .i32 1, .int .i32 27, .int .i32 120] 21)) := (Below.refl _ w).alloc (Nat.le_refl _) _
  have k := refKSame_any A (some ⟨w.heap.size, 0, none⟩) c 3 _ [1, 27, 120] [1, 27, 120] (by decide) (by decide) (w.alloc (.cells #[.int .i32 1, .int .i32 27, .int .i32 120] 21)) (Nat.le_refl _) ((h.alloc (Nat.le_refl _) _).more (by simp)) (alive_row w [1, 27, 120] _ rfl)
  rw [decide_eq_true rfl] at k
  refine k.mono ?_
  rintro e w' ⟨rfl, hb⟩
  exact ⟨rfl, b0.trans (hb.mono b0.size)⟩
set_option maxHeartbeats 2000000 in
theorem aliveK_any (w : World) (KS : KeySays w) : Calls Tryd.prog 10 #[] w fun e w' => e = .returned (.bool true) ∧ Below w.heap.size w w' := by
  have HK := Lib.hid KS
  clear KS
  have H3 := Lib.hid alive_may
  go_enter Tryd.func10, Tryd.ntmps10
  go_wp2_with (first
    | (go_at_call 11; refine (alive_printed w HK.out).mono ?_; rintro e w1 ⟨rfl, b1⟩)
    | (go_at_call 13; refine (alive_parsed w1 (HK.out.at b1)).mono ?_; rintro e w2 ⟨A2, c2, rfl, r2, b2⟩; replace b2 := b1.trans (b2.mono b1.size); have R2 := Lib.hid r2; clear r2)
    | (go_at_call 15; refine (alive_same w2 A2 c2 R2.out).mono ?_; rintro e w4 ⟨rfl, b4⟩; replace b4 := b2.trans (b4.mono b2.size))
    | (go_at_call 8; refine (HK.out.may 27 _ b4 (by decide)).mono ?_; rw [H3.out]; rintro e w5 ⟨rfl, b5⟩; replace b5 := b4.trans (b5.mono b4.size)))
  go_ret
  exact ⟨rfl, b5⟩
end Go.Proofs.YtfoncmgcdldkdaaDoor

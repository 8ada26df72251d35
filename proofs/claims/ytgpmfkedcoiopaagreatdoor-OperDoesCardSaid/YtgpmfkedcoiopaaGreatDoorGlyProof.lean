/-
  The landed package glyph answers what the document asks: one bundle.
-/
import Derived.Test.YtgpmfkedcoiopaaGreatDoorGlyFirst
namespace Go.Proofs.YtgpmfkedcoiopaaGreatDoor
open Go.RowKit

set_option maxHeartbeats 400000 in
theorem glyCount_any (S : List UInt8) (hs : S.length ≤ 1000000) (w : World) :
    Calls Tryz.prog 65 #[.string ⟨S.toArray⟩] w fun e w' => e = .returned (.int .i64 ((chars S).length : Nat)) ∧ Below w.heap.size w w' := by
  go_enter Tryz.func65, Tryz.ntmps65
  go_wp2_with ((with_reducible refine at_range 9 _ ?_); refine wpList_rangeStr rfl 9 _ rfl Tryz.underlying9 S rfl ?_; intro w1 g hg hit hb1)
  go_frame
  go_loopw [3] (fun n wr => ∃ done pos, n = .int .i64 (done : List (Nat × Nat)).length ∧ done.length ≤ pos ∧ pos ≤ S.length ∧ Hid (Read S done pos) ∧ Iter wr g S pos ∧ Below w.heap.size w wr) (fun _ wr => S.length - wr.iterPos g)
  case atStart => exact ⟨[], 0, rfl, by simp, by omega, Read.start S, hit, hb1⟩
  case round =>
    clear hit hb1
    obtain ⟨done, pos, rfl, hdl, hpl, HR, hit, hb⟩ := hrel
    have hip : wr.iterPos g = pos := by unfold World.iterPos; rw [hit]
    have HIP := Lib.hid hip
    clear hip
    by_cases hlt : pos < S.length
    · have HST := Lib.hid (HR.out.step hlt)
      have hp := dec_pos (S.drop pos)
      go_wp2_with ((with_reducible refine at_next _ true ?_); refine wpList_nextStr rfl _ rfl g rfl S pos hit hlt ?_; intro w2 hit2 hg2)
      have hip2 : w2.iterPos g = pos + (dec (S.drop pos)).2 := by unfold World.iterPos; rw [hit2]
      have hle := HST.out.le
      rw [HIP.out, hip2]
      exact ⟨⟨_, _, by simp, by simp; omega, hle, HST, hit2, hb.grown hg2 hb.size (fun k hk => by injection hk with hk; omega)⟩, by omega⟩
    · have HE := Lib.hid (HR.out.end_ (by omega))
      go_wp2_with ((with_reducible refine at_next _ true ?_); refine wpList_nextEnd rfl _ rfl g rfl S pos hit hlt ?_)
      go_ret
      exact ⟨by rw [HE.out]; rfl, hb⟩

end Go.Proofs.YtgpmfkedcoiopaaGreatDoor

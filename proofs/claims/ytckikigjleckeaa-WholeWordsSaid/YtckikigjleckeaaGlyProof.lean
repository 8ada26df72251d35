/-
  The landed package glyph answers what the document asks: one bundle.
-/
import Derived.Test.YtckikigjleckeaaGlyFirst
namespace Go.Proofs.Ytckikigjleckeaa
open Go.RowKit

set_option maxHeartbeats 400000 in
theorem glyCount_any (S : List UInt8) (hs : S.length ≤ 1000000) (w : World) :
    Calls Try.prog 85 #[.string ⟨S.toArray⟩] w fun e w' => e = .returned (.int .i64 ((chars S).length : Nat)) ∧ Below w.heap.size w w' := by
  go_enter Try.func85, Try.ntmps85
  go_wp2_with ((with_reducible refine at_range 9 _ ?_); refine wpList_rangeStr rfl 9 _ rfl Try.underlying9 S rfl ?_; intro w1 g hg hit hb1)
  go_frame
  go_loopw [3] (fun n wr => ∃ done pos, n = .int .i64 (done : List (Nat × Nat)).length ∧ done.length ≤ pos ∧ pos ≤ S.length ∧ Hid (Read S done pos) ∧ Iter wr g S pos ∧ Below w.heap.size w wr) (fun _ wr => S.length - wr.iterPos g)
  case atStart => exact ⟨[], 0, rfl, by simp, by omega, Read.start S, hit, hb1⟩
  case round =>
    clear hit hb1
    obtain ⟨done, pos, rfl, hdl, hpl, HR, hit, hb⟩ := hrel
    have hip : wr.iterPos g = pos := by unfold World.iterPos; rw [hit]
    have HIP := Lib.hid hip
    clear hip
    by_cases hlt : pos < S.length
    · have HST := Lib.hid (HR.out.step hlt)
      have hp := dec_pos (S.drop pos)
      go_wp2_with ((with_reducible refine at_next _ true ?_); refine wpList_nextStr rfl _ rfl g rfl S pos hit hlt ?_; intro w2 hit2 hg2)
      have hip2 : w2.iterPos g = pos + (dec (S.drop pos)).2 := by unfold World.iterPos; rw [hit2]
      have hle := HST.out.le
      rw [HIP.out, hip2]
      exact ⟨⟨_, _, by simp, by simp; omega, hle, HST, hit2, hb.grown hg2 hb.size (fun k hk => by injection hk with hk; omega)⟩, by omega⟩
    · have HE := Lib.hid (HR.out.end_ (by omega))
      go_wp2_with ((with_reducible refine at_next _ true ?_); refine wpList_nextEnd rfl _ rfl g rfl S pos hit hlt ?_)
      go_ret
      exact ⟨by rw [HE.out]; rfl, hb⟩

theorem elt_intG : Elt Try.prog 38 3 (.int .i64 0) 1 8 := ⟨Try.underlying38, by kernel_rfl, rfl, by decide⟩
theorem startsAt_snocG (a : Nat) (l : List (Nat × Nat)) (x : Nat × Nat) : startsAt a (l ++ [x]) = startsAt a l ++ [a + width l] := by
  rw [← offs_fst, offs_snoc, List.map_append, offs_fst]; rfl

set_option maxHeartbeats 400000 in
theorem glyStarts_any (S : List UInt8) (hs : S.length ≤ 1000000) (w : World) :
    Calls Try.prog 17 #[.string ⟨S.toArray⟩] w fun e w' => ∃ A c, e = .returned (.slice A (startsAt 0 (chars S)).length c) ∧
      w'.ownsRow w.heap.size 3 1 (.slice A (startsAt 0 (chars S)).length c) (startsAt 0 (chars S)).length ((startsAt 0 (chars S)).map intn) ∧ Below w.heap.size w w' := by
  go_enter Try.func17, Try.ntmps17
  go_wp2_with ((with_reducible refine at_range 9 _ ?_); refine wpList_rangeStr rfl 9 _ rfl Try.underlying9 S rfl ?_; intro w1 g hg hit hb1)
  go_frame
  go_loopw [3] (fun v wr => ∃ done pos, (done : List (Nat × Nat)).length ≤ pos ∧ pos ≤ S.length ∧ Hid (Read S done pos) ∧ Iter wr g S pos ∧ wr.ownsRow w.heap.size 3 1 v (startsAt 0 done).length ((startsAt 0 done).map intn) ∧ Below w.heap.size w wr) (fun _ wr => S.length - wr.iterPos g)
  case atStart => exact ⟨[], 0, by simp, by omega, Read.start S, hit, World.ownsRow_nil _ _ _ _, hb1⟩
  case round =>
    clear hit hb1
    obtain ⟨done, pos, hdl, hpl, HR, hit, hown, hb⟩ := hrel
    have hip : wr.iterPos g = pos := by unfold World.iterPos; rw [hit]
    have HIP := Lib.hid hip
    clear hip
    have z := hb.size
    have HN := Lib.hid (hit.not_row hown)
    have HL : Hid ((startsAt 0 done).length = done.length) := startsAt_len _ _
    obtain ⟨A, c, rfl⟩ := own_form hown
    by_cases hlt : pos < S.length
    · have HST := Lib.hid (HR.out.step hlt)
      have HSN : Hid (startsAt 0 (done ++ [dec (S.drop pos)]) = startsAt 0 done ++ [pos]) := by
        show startsAt 0 _ = _
        rw [startsAt_snocG, HR.out.wide, Nat.zero_add]
      have hp := dec_pos (S.drop pos)
      go_wp2_with (first
        | ((with_reducible refine at_next _ true ?_); refine wpList_nextStr rfl _ rfl g rfl S pos hit hlt ?_; intro w2 hit2 hg2; have hown2 := hown.kept hg2 (.inr HN.out); have z2 := hg2.size)
        | (at_builtin; refine wpList_pushN rfl _ _ _ rfl w.heap.size 3 _ 1 8 elt_intG _ _ _ _ rfl hown2 [.int .i64 (pos : Int)] _ rfl rfl rfl (by simp [Value.oneCell']) (by have := HL.out; unfold maxLen; omega) (by have := HL.out; omega) (by omega) ?_; intro v3 w3 hown3 hb3 hfar3; have hit3 := hit2.far (hfar3 g hit2.lt HN.out)))
      have hip3 : w3.iterPos g = pos + (dec (S.drop pos)).2 := by unfold World.iterPos; rw [hit3]
      have hle := HST.out.le
      rw [HIP.out, hip3]
      exact ⟨⟨_, _, by simp; omega, hle, HST, hit3, by rw [HSN.out, List.length_append, List.map_append]; exact hown3, (hb.grown hg2 hb.size (fun k hk => by injection hk with hk; omega)).trans hb3⟩, by omega⟩
    · have HE := Lib.hid (HR.out.end_ (by omega))
      go_wp2_with ((with_reducible refine at_next _ true ?_); refine wpList_nextEnd rfl _ rfl g rfl S pos hit hlt ?_)
      go_ret
      exact ⟨A, c, by rw [HE.out]; rfl, by rw [HE.out]; exact hown, hb⟩

theorem class_95 (w : World) : Calls Try.prog 36 #[.int .i32 95] w fun e w' => e = .returned (.int .i64 1) ∧ Below w.heap.size w w' := by
  go_enter Try.func36, Try.ntmps36
  go_wp2
  go_ret
  exact ⟨rfl, Below.refl _ _⟩

theorem all_snoc (l : List (Nat × Nat)) (x : Nat × Nat) : ((l ++ [x]).all fun x => !broken x) = ((l.all fun x => !broken x) && !broken x) := by simp
theorem broken_one {x : Nat × Nat} (h : x.1 = 65533) : broken x = decide (x.2 = 1) := by unfold broken; simp [h]
theorem broken_not {x : Nat × Nat} (h : ¬ x.1 = 65533) : broken x = false := by unfold broken; simp [h]

end Go.Proofs.Ytckikigjleckeaa

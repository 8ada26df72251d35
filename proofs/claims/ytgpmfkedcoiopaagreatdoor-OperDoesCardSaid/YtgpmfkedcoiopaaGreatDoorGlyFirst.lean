/-
  Contracts of the landed package glyph: first, Align.
-/
import Derived.Test.YtgpmfkedcoiopaaGreatDoorM02v
import Derived.Test.YtgpmfkedcoiopaaGreatDoorM02u
namespace Go.Proofs.YtgpmfkedcoiopaaGreatDoor
open Go.RowKit

set_option maxHeartbeats 400000 in
theorem glyFirst_any (S : List UInt8) (hs : S.length ≤ 1000000) (w : World) :
    Calls Tryz.prog 99 #[.string ⟨S.toArray⟩] w fun e w' => e = .returned (.tuple #[.int .i32 ((headDec S).1 : Nat), .int .i64 ((headDec S).2 : Nat)]) ∧ Below w.heap.size w w' := by
  go_enter Tryz.func99, Tryz.ntmps99
  go_wp2_with ((with_reducible refine at_range 9 _ ?_); refine wpList_rangeStr rfl 9 _ rfl Tryz.underlying9 S rfl ?_; intro w1 g hg hit hb1)
  try go_frame
  go_loopw [4] (fun v wr => ∃ pos, ((pos = 0 ∧ v = .int .i32 0) ∨ (pos = (dec S).2 ∧ v = .int .i32 ((dec S).1 : Nat) ∧ pos ≤ S.length ∧ S ≠ [])) ∧ Iter wr g S pos ∧ Below w.heap.size w wr) (fun _ wr => S.length - wr.iterPos g)
  case atStart => exact ⟨0, .inl ⟨rfl, rfl⟩, hit, hb1⟩
  case round =>
    clear hit hb1
    obtain ⟨pos, hor, hit, hb⟩ := hrel
    have hip : wr.iterPos g = pos := by unfold World.iterPos; rw [hit]
    have HIP := Lib.hid hip
    clear hip
    have hp := dec_pos S
    rcases hor with ⟨rfl, rfl⟩ | ⟨hpos, rfl, hpl, hne⟩
    · by_cases hlt : 0 < S.length
      · have hle := dec_le (t := S) (by intro h; rw [h] at hlt; simp at hlt)
        have hz : (0 : Int) ≤ ((dec S).2 : Nat) := by omega
        have HNE : Hid (S ≠ []) := by intro h; rw [h] at hlt; simp at hlt
        go_wp2_with ((with_reducible refine at_next _ true ?_); refine wpList_nextStr rfl _ rfl g rfl S 0 hit hlt ?_; intro w2 hit2 hg2)
        rw [List.drop_zero, Nat.zero_add] at hit2
        have hip2 : w2.iterPos g = (dec S).2 := by unfold World.iterPos; rw [hit2]
        rw [HIP.out, hip2]
        exact ⟨⟨_, .inr ⟨rfl, rfl, hle, HNE.out⟩, hit2, hb.grown hg2 hb.size (fun k hk => by injection hk with hk; omega)⟩, by omega⟩
      · have HE : Hid (headDec S = (0, 0)) := if_pos (List.eq_nil_of_length_eq_zero (by omega))
        have HL : Hid (S.length = 0) := by show S.length = 0; omega
        go_wp2_with ((with_reducible refine at_next _ true ?_); refine wpList_nextEnd rfl _ rfl g rfl S 0 hit hlt ?_)
        go_ret2
        exact ⟨by rw [HE.out, HL.out]; rfl, hb⟩
    · have HE : Hid (headDec S = dec S) := headDec_ne hne
      have HP := Lib.hid hpos
      have hpI : (pos : Int) > 0 := by omega
      clear hne hpos
      by_cases hlt : pos < S.length
      · go_wp2_with ((with_reducible refine at_next _ true ?_); refine wpList_nextStr rfl _ rfl g rfl S pos hit hlt ?_; intro w2 hit2 hg2)
        go_ret2
        exact ⟨by rw [HE.out, HP.out]; rfl, hb.grown hg2 hb.size (fun k hk => by injection hk with hk; omega)⟩
      · have HL : Hid (S.length = (dec S).2) := by show S.length = (dec S).2; have := HP.out; omega
        go_wp2_with ((with_reducible refine at_next _ true ?_); refine wpList_nextEnd rfl _ rfl g rfl S pos hit hlt ?_)
        go_ret2
        exact ⟨by rw [HE.out, HL.out]; rfl, hb⟩

set_option maxHeartbeats 1000000 in
theorem glyAlign_any (S : List UInt8) (p : Int) (w : World) (hs : S.length ≤ 1000000) :
    Calls Tryz.prog 40 #[.string ⟨S.toArray⟩, .int .i64 p] w fun e w' => ∃ i : Nat, e = .returned (.int .i64 (width ((chars S).take i) : Nat)) ∧ Which (chars S) p i ∧ Below w.heap.size w w' := by
  by_cases hneg : p < 0
  · go_enter Tryz.func40, Tryz.ntmps40
    go_wp2
    go_ret
    exact ⟨0, by simp [width], which_neg S hneg, Below.refl _ _⟩
  by_cases hbig : (S.length : Int) ≤ p
  · have HW := Lib.hid (width_all S)
    go_enter Tryz.func40, Tryz.ntmps40
    go_wp2
    go_ret
    exact ⟨(chars S).length, by rw [HW.out]; rfl, which_behind S hbig, Below.refl _ _⟩
  obtain ⟨q, rfl⟩ : ∃ q : Nat, p = (q : Int) := ⟨p.toNat, by omega⟩
  have hq : q < S.length := by omega
  clear hneg hbig
  obtain ⟨i, hi⟩ := which_ex (chars S) (q : Int)
  have hback := fun b h1 h2 => hi.back hq (b := b) h1 h2
  have hhere := hi.here_bytes hq
  have hdp := (dec_pos (S.drop (width ((chars S).take i)))).2
  have HI := Lib.hid hi
  have HB := Lib.hid hback
  clear hi hback
  obtain ⟨-, ha1, ha2⟩ := hhere
  have ha3 : q < width ((chars S).take i) + 4 := by omega
  clear hdp ha2
  generalize hA : width ((chars S).take i) = a at *
  have HA := Lib.hid hA
  clear hA
  have hd0 : decide ((q : Int) < 0) = false := by simp
  have hd1 : decide (S.length ≤ q) = false := by simp; omega
  go_enter Tryz.func40, Tryz.ntmps40
  go_wp2
  go_loopw [5] (fun v wr => ∃ b : Nat, v = .int .i64 b ∧ 1 ≤ b ∧ b ≤ 4 ∧ Hid (∀ c, 1 ≤ c → c < b → c ≤ q → ¬ a = q - c) ∧ Below w.heap.size w wr) (fun v _ => 4 - (intOf v).toNat)
  case atStart => exact ⟨1, rfl, by omega, by omega, fun c h1 h2 => absurd h2 (by omega), Below.refl _ _⟩
  case round =>
    obtain ⟨b, rfl, h1, h4, HN, hb⟩ := hrel
    have z := hb.size
    by_cases hin : b < 4 ∧ b ≤ q
    · obtain ⟨hb4, hbq⟩ := hin
      have HBI := Lib.hid (HB.out b h1 hbq)
      have HNE := Lib.hid (drop_ne (S := S) (a := q - b) (by omega))
      have HH := Lib.hid (headDec_ne HNE.out)
      have hlen : (S.drop (q - b)).length ≤ 1000000 := by rw [List.length_drop]; omega
      have hbd := dec_pos (S.drop (q - b))
      generalize hD : dec (S.drop (q - b)) = D at *
      have HD := Lib.hid hD
      clear hD
      have hgtI : b < D.2 ↔ ((D.2 : Nat) : Int) > (b : Int) := by omega
      by_cases hgt : b < D.2
      · have hgt' := hgtI.1 hgt
        clear hgtI
        go_wp2_with fail
        rw [text_tail]
        refine (glyFirst_any _ hlen _).mono ?_
        rintro e w1 ⟨rfl, hb1⟩
        rw [HH.out]
        go_wp2_with fail
        go_ret
        refine ⟨i, ?_, HI.out, hb.trans (hb1.mono z)⟩
        have := HBI.out.1 hgt
        rw [HA.out, this]
        simp; omega
      · have hgt' := fun h => hgt (hgtI.2 h)
        clear hgtI
        go_wp2_with fail
        rw [text_tail]
        refine (glyFirst_any _ hlen _).mono ?_
        rintro e w1 ⟨rfl, hb1⟩
        rw [HH.out]
        go_wp2_with fail
        go_roundw
        case rel =>
          refine ⟨b + 1, by go_num, by omega, by omega, fun c g1 g2 g3 => ?_, hb.trans (hb1.mono z)⟩
          by_cases hcb : c = b
          · subst hcb; exact fun e => hgt (HBI.out.2 e)
          · exact HN.out c g1 (by omega) g3
        case measure => simp [intOf]; omega
    · have HE : Hid (a = q) := by
        show a = q
        rcases Nat.lt_or_ge a q with hlt | hge
        · exact absurd (show a = q - (q - a) by omega) (HN.out (q - a) (by omega) (by omega) (by omega))
        · omega
      by_cases hb4 : b < 4
      · have hbq : ¬ b ≤ q := by omega
        clear hin
        go_wp2
        go_ret
        exact ⟨i, by rw [HA.out, HE.out]; rfl, HI.out, hb⟩
      · clear hin
        go_wp2
        go_ret
        exact ⟨i, by rw [HA.out, HE.out]; rfl, HI.out, hb⟩

set_option maxHeartbeats 400000 in
theorem glyNext_any (S : List UInt8) (p : Int) (w : World) (hs : S.length ≤ 1000000) :
    Calls Tryz.prog 42 #[.string ⟨S.toArray⟩, .int .i64 p] w fun e w' => ∃ i : Nat, e = .returned (.int .i64 (width ((chars S).take (i + 1)) : Nat)) ∧ Which (chars S) p i ∧ Below w.heap.size w w' := by
  go_enter Tryz.func42, Tryz.ntmps42
  go_wp2_with fail
  refine (glyAlign_any S p _ hs).mono ?_
  rintro e w1 ⟨i, rfl, hi, hb1⟩
  have z1 := hb1.size
  have hle := hi.at_le
  have HW := Lib.hid hi.head_width
  have hlen : (S.drop (width ((chars S).take i))).length ≤ 1000000 := by rw [List.length_drop]; omega
  generalize width ((chars S).take i) = a at *
  have hd : (headDec (S.drop a)).2 ≤ 4 := by unfold headDec; split; · simp
                                             exact (dec_pos _).2
  go_wp2_with fail
  rw [text_tail]
  refine (glyFirst_any _ hlen _).mono ?_
  rintro e w2 ⟨rfl, hb2⟩
  go_wp2_with fail
  go_ret
  exact ⟨i, by rw [HW.out]; rfl, hi, hb1.trans (hb2.mono z1)⟩

set_option maxHeartbeats 400000 in
theorem glyAt_any (S : List UInt8) (p : Int) (w : World) (hs : S.length ≤ 1000000) :
    Calls Tryz.prog 154 #[.string ⟨S.toArray⟩, .int .i64 p] w fun e w' => ∃ i : Nat, e = .returned (.tuple #[.int .i32 (((chars S).getD i (0, 0)).1 : Nat), .int .i64 (((chars S).getD i (0, 0)).2 : Nat)]) ∧ Which (chars S) p i ∧ Below w.heap.size w w' := by
  go_enter Tryz.func154, Tryz.ntmps154
  go_wp2_with fail
  refine (glyAlign_any S p _ hs).mono ?_
  rintro e w1 ⟨i, rfl, hi, hb1⟩
  have z1 := hb1.size
  have hle := hi.at_le
  have HW := Lib.hid hi.head
  have hlen : (S.drop (width ((chars S).take i))).length ≤ 1000000 := by rw [List.length_drop]; omega
  generalize width ((chars S).take i) = a at *
  go_wp2_with fail
  rw [text_tail]
  refine (glyFirst_any _ hlen _).mono ?_
  rintro e w2 ⟨rfl, hb2⟩
  go_wp2_with fail
  go_ret2
  exact ⟨i, by rw [HW.out]; rfl, hi, hb1.trans (hb2.mono z1)⟩
end Go.Proofs.YtgpmfkedcoiopaaGreatDoor

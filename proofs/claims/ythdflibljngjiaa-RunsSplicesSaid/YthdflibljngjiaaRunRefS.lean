/-
  Contracts of the document's own answers, layer 3: Splice.
-/
import Derived.Test.YthdflibljngjiaaRunCat
import Derived.Deep.RegionHeld3
import Derived.Deep.DeepCutAuto
namespace Go.Proofs.Ythdflibljngjiaa
open Go.RowKit

theorem row_take {w : World} {B : Nat} {A : Option Addr} {b : List Nat} (h : Row w B A (b.map u64v)) (F : Nat) : Row w B A ((b.take F).map u64v) := by
  rcases h with h | ⟨ad, rfl, hb, hc⟩
  · have : b = [] := by simpa using h
    subst this
    exact .inl (by simp)
  · refine .inr ⟨ad, rfl, hb, fun j u hj => hc j u ?_⟩
    rw [List.getElem?_map, List.getElem?_take] at hj
    split at hj
    · rw [List.getElem?_map]; exact hj
    · simp at hj
theorem row_drop {w : World} {base e n c : Nat} {A : Option Addr} {b : List Nat} (h : w.ownsRow base e 1 (.slice A n c) n (b.map u64v)) (hn : n = b.length) (T : Nat) (hT : T ≤ n) :
    Row w w.heap.size (if c = T then A else Option.map (fun x => x.add T) A) ((b.drop T).map u64v) := by
  have hcap := own_cap h
  by_cases hc : c = T
  · rw [if_pos hc]
    refine .inl ?_
    rw [List.drop_of_length_le (by omega)]; rfl
  · rw [if_neg hc]
    have := row_own_cut h (T : Int) (b.length : Nat) (by omega)
    rw [cut_back (by omega), Int.toNat_natCast] at this
    exact this
/-- joined, with the lengths as the walk has them -/
theorem refJoined_n (A A2 : Option Addr) (c d B B2 n1 n2 : Nat) (a b : List Nat) (e1 : a.length = n1) (e2 : b.length = n2) (ha : n1 ≤ 1000000) (hb0 : n2 ≤ 1000000) (w : World) (hB : B ≤ w.heap.size) (hB2 : B2 ≤ w.heap.size) (h1 : Row w B A (a.map u64v)) (h2 : Row w B2 A2 (b.map u64v)) :
    Calls Try.prog 41 #[.slice A n1 c, .slice A2 n2 d] w fun e w' => ∃ A' c', e = .returned (.slice A' (n1 + n2) c') ∧
      Row w' w'.heap.size A' ((a ++ b).map u64v) ∧ Below w.heap.size w w' := by
  subst e1 e2
  refine (refJoined_any A A2 c d B B2 a b ha hb0 w hB hB2 h1 h2).mono ?_
  rintro e w' ⟨A', c', rfl, hown, hb⟩
  refine ⟨A', c', by rw [List.length_append], Row.of_own hown, hb⟩
theorem refPack_n (A : Option Addr) (c B n : Nat) (b : List Nat) (e1 : b.length = n) (hz : ∀ x ∈ b, x < 18446744073709551616) (hlen : n ≤ 1000000) (w : World) (hB : B ≤ w.heap.size) (h : Row w B A (b.map u64v)) :
    Calls Try.prog 33 #[.slice A n c] w fun e w' => ∃ A' c', e = .returned (.slice A' (pack b).length c') ∧
      w'.ownsRow w.heap.size 51 2 (.slice A' (pack b).length c') (pack b).length (flatR (pack b)) ∧ Below w.heap.size w w' := by
  subst e1
  exact refPack_any A c B b hz hlen w hB h

set_option maxHeartbeats 1000000 in
theorem refSplice_any (A A2 : Option Addr) (c d B B2 : Nat) (l m : List RunP) (f t : Int) (hf : Fits l) (hf2 : Fits m) (hlen : l.length ≤ maxLen) (hlen2 : m.length ≤ maxLen) (w : World) (hB : B ≤ w.heap.size) (hB2 : B2 ≤ w.heap.size) (h : Row w B A (flatR l)) (hh : Row w B2 A2 (flatR m)) :
    Calls Try.prog 28 #[.slice A l.length c, .int .i64 f, .int .i64 t, .slice A2 m.length d] w (Gives w (spliceOf l f t m)) := by
  have HF := Lib.hid hf
  have HF2 := Lib.hid hf2
  clear hf hf2
  by_cases hw : withinB l f t = true
  · obtain ⟨hg, h0, h1, h2, h3, hs⟩ := within_of hw
    by_cases hg2 : goodB m = true
    · have hs2 := ((goodB_iff m).1 hg2).1
      have hl2 : (bytesOf m).length ≤ 4096 := by rw [bytesOf_len]; exact hs2
      have HT := Lib.hid (totalOf_good hg)
      have HT2 := Lib.hid (totalOf_good hg2)
      by_cases hbig : ((bytesOf l).length : Int) - (t - f) + ((bytesOf m).length : Int) ≤ 4096
      · have HR := Lib.hid (spliceOf_ok hw hg2 hbig)
        obtain ⟨F, rfl⟩ : ∃ F : Nat, f = (F : Int) := ⟨f.toNat, by omega⟩
        obtain ⟨T, rfl⟩ : ∃ T : Nat, t = (T : Int) := ⟨t.toNat, by omega⟩
        rw [Int.toNat_natCast, Int.toNat_natCast] at HR
        go_enter Try.func28, Try.ntmps28
        go_upto_region 6 with (first
          | (go_at_call 40; refine (refWithin_any A c B l (F : Int) (T : Int) HF.out hlen w hB h).mono ?_; rintro e w1 ⟨rfl, hb1⟩; rw [hw]; have z1 := hb1.size)
          | (go_at_call 16; refine (refGood_any A2 d B2 m HF2.out hlen2 w1 (by omega) (hh.below (hb1.mono hB2))).mono ?_; rintro e w2 ⟨rfl, hb2⟩; rw [hg2]; have z2 := hb2.size; have b2 := hb1.trans (hb2.mono z1); clear hb1 hb2)
          | (go_at_call_of 18 l; refine (refTotal_any A c B l HF.out hlen w2 (by omega) (h.below (b2.mono hB))).mono ?_; rintro e w3 ⟨rfl, hb3⟩; rw [HT.out]; have z3 := hb3.size; have b3 := b2.trans (hb3.mono (by omega)); clear hb3)
          | (go_at_call_of 18 m; refine (refTotal_any A2 d B2 m HF2.out hlen2 w3 (by omega) (hh.below (b3.mono hB2))).mono ?_; rintro e w4 ⟨rfl, hb4⟩; rw [HT2.out]; have z4 := hb4.size; have b4 := b3.trans (hb4.mono (by omega)); clear hb4)
          | (go_at_call_of 34 l; refine (refBytes_any A c B l HF.out hlen hs w4 (by omega) (h.below (b4.mono hB))).mono ?_; rintro e w5 ⟨A5, c5, rfl, hown5, hb5⟩; have z5 := hb5.size; have b5 := b4.trans (hb5.mono (by omega)); clear hb5; have hcap := own_cap hown5))
        go_wp2_with fail
        have x1 : (0 : Int) ≤ (F : Int) := by omega
        have x2 : (F : Int) ≤ (c5 : Int) := by omega
        have x3 : (0 : Int) ≤ (T : Int) := by omega
        have x4 : (T : Int) ≤ (c5 : Int) := by omega
        have x5 : F ≤ c5 := by omega
        have x6 : T ≤ c5 := by omega
        have M1 := Lib.hid (row_take (Row.of_own hown5) F)
        have M2 := Lib.hid (row_drop hown5 rfl T (by omega))
        have L1 : Hid (((bytesOf l).take F).length = F) := by show _ = _; rw [List.length_take]; omega
        have L2 : Hid (((bytesOf l).drop T).length = (bytesOf l).length - T) := List.length_drop
        have L3 : Hid (((bytesOf l).take F ++ bytesOf m).length = F + (bytesOf m).length) := by show _ = _; rw [List.length_append, L1.out]
        have L4 : Hid (((bytesOf l).take F ++ bytesOf m ++ (bytesOf l).drop T).length = F + (bytesOf m).length + ((bytesOf l).length - T)) := by show _ = _; rw [List.length_append, L3.out, L2.out]
        have MM : Hid (∀ x ∈ (bytesOf l).take F ++ bytesOf m ++ (bytesOf l).drop T, x < 18446744073709551616) :=
          mem_append_lt (mem_append_lt (fun x hx => bytesOf_mem HF.out x (List.mem_of_mem_take hx)) (bytesOf_mem HF2.out)) (fun x hx => bytesOf_mem HF.out x (List.mem_of_mem_drop hx))
        by_cases hcT : c5 = T
        · subst hcT
          rw [if_pos rfl] at M2
          have L2' : Hid (((bytesOf l).drop c5).length = 0) := by show _ = _; rw [L2.out]; omega
          have L4' : Hid (((bytesOf l).take F ++ bytesOf m ++ (bytesOf l).drop c5).length = F + (bytesOf m).length) := by show _ = _; rw [L4.out]; omega
          go_region_held3 (fun _ => True) (trivial) (first
            | (go_at_call 34; refine (refBytes_any A2 d B2 m HF2.out hlen2 hs2 w5.drew (by show B2 ≤ w5.heap.size; omega) ((hh.below (b5.mono hB2)).drewN 1)).mono ?_; rintro e w6 ⟨A6, c6, rfl, hown6, hb6⟩; have z6 : w5.heap.size ≤ w6.heap.size := hb6.size; have b6 := (below_drewN b5 1).trans (hb6.mono (by show w.heap.size ≤ w5.heap.size; omega)); have M3 := Lib.hid ((M1.out.drewN 1).below hb6); have M4 := Lib.hid ((M2.out.drewN 1).below hb6); clear hb6)
            | (go_at_call_of 41 (Value.slice A5 F c5); refine (refJoined_n A5 A6 c5 c6 w5.heap.size w6.heap.size F (bytesOf m).length ((bytesOf l).take F) (bytesOf m) L1.out rfl (by omega) (by omega) w6 z6 (Nat.le_refl _) M3.out (Row.of_own hown6)).mono ?_; rintro e w7 ⟨A7, c7, rfl, hrow7, hb7⟩; have z7 := hb7.size; have b7 := b6.trans (hb7.mono (by omega)); have M5 := Lib.hid (M4.out.below (hb7.mono z6)); clear hb7)
            | (go_at_call 41; refine (refJoined_n A7 _ c7 _ w7.heap.size w5.heap.size (F + (bytesOf m).length) 0 ((bytesOf l).take F ++ bytesOf m) ((bytesOf l).drop c5) L3.out L2'.out (by omega) (by omega) w7 (Nat.le_refl _) (by omega) hrow7 M5.out).mono ?_; rintro e w8 ⟨A8, c8, rfl, hrow8, hb8⟩; have z8 := hb8.size; have b8 := b7.trans (hb8.mono (by omega)); clear hb8; generalize hX : (bytesOf l).take F ++ bytesOf m ++ (bytesOf l).drop c5 = X at *; clear hX)
            | (go_at_call 33; refine (refPack_n A8 c8 w8.heap.size _ X L4'.out MM.out (by omega) w8 (Nat.le_refl _) hrow8).mono ?_; rintro e w9 ⟨A9, c9, rfl, hown9, hb9⟩))
          go_wp2
          go_ret2
          rw [HR.out]
          exact ⟨A9, c9, rfl, own_base hown9 (by omega), b8.trans (hb9.mono (by omega))⟩
        · rw [if_neg hcT] at M2
          go_region_held3 (fun _ => True) (trivial) (first
            | (go_at_call 34; refine (refBytes_any A2 d B2 m HF2.out hlen2 hs2 w5.drew (by show B2 ≤ w5.heap.size; omega) ((hh.below (b5.mono hB2)).drewN 1)).mono ?_; rintro e w6 ⟨A6, c6, rfl, hown6, hb6⟩; have z6 : w5.heap.size ≤ w6.heap.size := hb6.size; have b6 := (below_drewN b5 1).trans (hb6.mono (by show w.heap.size ≤ w5.heap.size; omega)); have M3 := Lib.hid ((M1.out.drewN 1).below hb6); have M4 := Lib.hid ((M2.out.drewN 1).below hb6); clear hb6)
            | (go_at_call_of 41 (Value.slice A5 F c5); refine (refJoined_n A5 A6 c5 c6 w5.heap.size w6.heap.size F (bytesOf m).length ((bytesOf l).take F) (bytesOf m) L1.out rfl (by omega) (by omega) w6 z6 (Nat.le_refl _) M3.out (Row.of_own hown6)).mono ?_; rintro e w7 ⟨A7, c7, rfl, hrow7, hb7⟩; have z7 := hb7.size; have b7 := b6.trans (hb7.mono (by omega)); have M5 := Lib.hid (M4.out.below (hb7.mono z6)); clear hb7)
            | (go_at_call 41; refine (refJoined_n A7 _ c7 _ w7.heap.size w5.heap.size (F + (bytesOf m).length) ((bytesOf l).length - T) ((bytesOf l).take F ++ bytesOf m) ((bytesOf l).drop T) L3.out L2.out (by omega) (by omega) w7 (Nat.le_refl _) (by omega) hrow7 M5.out).mono ?_; rintro e w8 ⟨A8, c8, rfl, hrow8, hb8⟩; have z8 := hb8.size; have b8 := b7.trans (hb8.mono (by omega)); clear hb8; generalize hX : (bytesOf l).take F ++ bytesOf m ++ (bytesOf l).drop T = X at *; clear hX)
            | (go_at_call 33; refine (refPack_n A8 c8 w8.heap.size _ X L4.out MM.out (by omega) w8 (Nat.le_refl _) hrow8).mono ?_; rintro e w9 ⟨A9, c9, rfl, hown9, hb9⟩))
          go_wp2
          go_ret2
          rw [HR.out]
          exact ⟨A9, c9, rfl, own_base hown9 (by omega), b8.trans (hb9.mono (by omega))⟩
      · have HR := Lib.hid (spliceOf_big hw hg2 hbig)
        go_enter Try.func28, Try.ntmps28
        go_wp2_with (first
          | (go_at_call 40; refine (refWithin_any A c B l f t HF.out hlen w hB h).mono ?_; rintro e w1 ⟨rfl, hb1⟩; rw [hw]; have z1 := hb1.size)
          | (go_at_call 16; refine (refGood_any A2 d B2 m HF2.out hlen2 w1 (by omega) (hh.below (hb1.mono hB2))).mono ?_; rintro e w2 ⟨rfl, hb2⟩; rw [hg2]; have z2 := hb2.size; have b2 := hb1.trans (hb2.mono z1); clear hb1 hb2)
          | (go_at_call_of 18 l; refine (refTotal_any A c B l HF.out hlen w2 (by omega) (h.below (b2.mono hB))).mono ?_; rintro e w3 ⟨rfl, hb3⟩; rw [HT.out]; have z3 := hb3.size; have b3 := b2.trans (hb3.mono (by omega)); clear hb3)
          | (go_at_call_of 18 m; refine (refTotal_any A2 d B2 m HF2.out hlen2 w3 (by omega) (hh.below (b3.mono hB2))).mono ?_; rintro e w4 ⟨rfl, hb4⟩; rw [HT2.out]; have z4 := hb4.size; have b4 := b3.trans (hb4.mono (by omega)); clear hb4))
        go_ret2
        rw [HR.out]
        exact gives_nil b4
    · have HR := Lib.hid (spliceOf_bad (l := l) (f := f) (t := t) (m := m) (fun h => hg2 h.2))
      have hg2' : goodB m = false := by simpa using hg2
      go_enter Try.func28, Try.ntmps28
      go_wp2_with (first
        | (go_at_call 40; refine (refWithin_any A c B l f t HF.out hlen w hB h).mono ?_; rintro e w1 ⟨rfl, hb1⟩; rw [hw]; have z1 := hb1.size)
        | (go_at_call 16; refine (refGood_any A2 d B2 m HF2.out hlen2 w1 (by omega) (hh.below (hb1.mono hB2))).mono ?_; rintro e w2 ⟨rfl, hb2⟩; rw [hg2']))
      go_ret2
      rw [HR.out]
      exact gives_nil (hb1.trans (hb2.mono z1))
  · have HR := Lib.hid (spliceOf_bad (l := l) (f := f) (t := t) (m := m) (fun h => hw h.1))
    have hw' : withinB l f t = false := by simpa using hw
    go_enter Try.func28, Try.ntmps28
    go_wp2_with (go_at_call 40; refine (refWithin_any A c B l f t HF.out hlen w hB h).mono ?_; rintro e w1 ⟨rfl, hb1⟩; rw [hw'])
    go_ret2
    rw [HR.out]
    exact gives_nil hb1
end Go.Proofs.Ythdflibljngjiaa

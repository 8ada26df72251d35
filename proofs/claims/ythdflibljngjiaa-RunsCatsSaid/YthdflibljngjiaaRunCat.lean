/-
  Contracts of the document's own answers, layer 3: Cat, Splice.
-/
import Derived.Test.YthdflibljngjiaaRunCut
import Derived.Deep.RegionWith
namespace Go.Proofs.Ythdflibljngjiaa
open Go.RowKit

def catOf (a b : List RunP) : List RunP × Nat :=
  if goodB a = true ∧ goodB b = true then (if (bytesOf a).length + (bytesOf b).length ≤ 4096 then (pack (bytesOf a ++ bytesOf b), 0) else ([], 3)) else ([], 2)
theorem catOf_bad {a b : List RunP} (h : ¬ (goodB a = true ∧ goodB b = true)) : catOf a b = ([], 2) := if_neg h
theorem catOf_big {a b : List RunP} (h1 : goodB a = true) (h2 : goodB b = true) (h : ¬ (bytesOf a).length + (bytesOf b).length ≤ 4096) : catOf a b = ([], 3) := by unfold catOf; rw [if_pos ⟨h1, h2⟩, if_neg h]
theorem catOf_ok {a b : List RunP} (h1 : goodB a = true) (h2 : goodB b = true) (h : (bytesOf a).length + (bytesOf b).length ≤ 4096) : catOf a b = (pack (bytesOf a ++ bytesOf b), 0) := by unfold catOf; rw [if_pos ⟨h1, h2⟩, if_pos h]
theorem mem_append_lt {a b : List Nat} {n : Nat} (ha : ∀ x ∈ a, x < n) (hb : ∀ x ∈ b, x < n) : ∀ x ∈ a ++ b, x < n := fun x hx => (List.mem_append.1 hx).elim (ha x) (hb x)

set_option maxHeartbeats 2000000 in
theorem refCat_any (A A2 : Option Addr) (c d B B2 : Nat) (a b : List RunP) (hfa : Fits a) (hfb : Fits b) (ha : a.length ≤ maxLen) (hb0 : b.length ≤ maxLen) (w : World) (hB : B ≤ w.heap.size) (hB2 : B2 ≤ w.heap.size) (h1 : Row w B A (flatR a)) (h2 : Row w B2 A2 (flatR b)) :
    Calls Try.prog 26 #[.slice A a.length c, .slice A2 b.length d] w (Gives w (catOf a b)) := by
  have HFA := Lib.hid hfa
  have HFB := Lib.hid hfb
  clear hfa hfb
  by_cases hga : goodB a = true
  · by_cases hgb : goodB b = true
    · have HTA := Lib.hid (totalOf_good hga)
      have HTB := Lib.hid (totalOf_good hgb)
      have hsa := ((goodB_iff a).1 hga).1
      have hsb := ((goodB_iff b).1 hgb).1
      have hla : (bytesOf a).length ≤ 4096 := by rw [bytesOf_len]; exact hsa
      have hlb : (bytesOf b).length ≤ 4096 := by rw [bytesOf_len]; exact hsb
      by_cases hbig : (bytesOf a).length + (bytesOf b).length ≤ 4096
      · have HR := Lib.hid (catOf_ok hga hgb hbig)
        have HM := Lib.hid (mem_append_lt (bytesOf_mem HFA.out) (bytesOf_mem HFB.out))
        have HL : Hid ((bytesOf a ++ bytesOf b).length ≤ 1000000) := by show _ ≤ _; rw [List.length_append]; omega
        go_enter Try.func26, Try.ntmps26
        go_wp2_with (first
          | (go_at_call_of 16 a; refine (refGood_any A c B a HFA.out ha _ hB h1).mono ?_; rintro e w1 ⟨rfl, hb1⟩; rw [hga]; have z1 := hb1.size)
          | (go_at_call_of 16 b; refine (refGood_any A2 d B2 b HFB.out hb0 _ (by omega) (h2.below (hb1.mono hB2))).mono ?_; rintro e w2 ⟨rfl, hb2⟩; rw [hgb]; have z2 := hb2.size; have b2 := hb1.trans (hb2.mono z1); clear hb2)
          | (go_at_call_of 18 a; refine (refTotal_any A c B a HFA.out ha _ (by omega) (h1.below (b2.mono hB))).mono ?_; rintro e w3 ⟨rfl, hb3⟩; rw [HTA.out]; have z3 := hb3.size; have b3 := b2.trans (hb3.mono (by omega)); clear hb3)
          | (go_at_call_of 18 b; refine (refTotal_any A2 d B2 b HFB.out hb0 _ (by omega) (h2.below (b3.mono hB2))).mono ?_; rintro e w4 ⟨rfl, hb4⟩; rw [HTB.out]; have z4 := hb4.size; have b4 := b3.trans (hb4.mono (by omega)); clear hb4)
          | (go_at_call_of 34 a; refine (refBytes_any A c B a HFA.out ha hsa _ (by omega) (h1.below (b4.mono hB))).mono ?_; rintro e w5 ⟨A5, c5, rfl, hown5, hb5⟩; have z5 := hb5.size; have b5 := b4.trans (hb5.mono (by omega)); clear hb5)
          | (go_at_call_of 34 b; refine (refBytes_any A2 d B2 b HFB.out hb0 hsb _ (by omega) (h2.below (b5.mono hB2))).mono ?_; rintro e w6 ⟨A6, c6, rfl, hown6, hb6⟩; have z6 := hb6.size; have b6 := b5.trans (hb6.mono (by omega)); have hrow5 := Row.of_own (own_keep hown5 hb6 (Nat.le_refl _)); clear hb6)
          | (go_at_call 41; refine (refJoined_any A5 A6 c5 c6 w6.heap.size w6.heap.size (bytesOf a) (bytesOf b) (by omega) (by omega) _ (Nat.le_refl _) (Nat.le_refl _) hrow5 (Row.of_own hown6)).mono ?_; rintro e w7 ⟨A7, c7, rfl, hown7, hb7⟩; have z7 := hb7.size; generalize hxy : bytesOf a ++ bytesOf b = xy at *; clear hxy)
          | (go_at_call 33; refine (refPack_any A7 c7 w7.heap.size xy HM.out HL.out _ (Nat.le_refl _) (Row.of_own hown7)).mono ?_; rintro e w8 ⟨A8, c8, rfl, hown8, hb8⟩))
        go_ret2
        rw [HR.out]
        exact ⟨A8, c8, rfl, own_base hown8 (by omega), (b6.trans (hb7.mono (by omega))).trans (hb8.mono (by omega))⟩
      · have HR := Lib.hid (catOf_big hga hgb hbig)
        go_enter Try.func26, Try.ntmps26
        go_wp2_with (first
          | (go_at_call_of 16 a; refine (refGood_any A c B a HFA.out ha _ hB h1).mono ?_; rintro e w1 ⟨rfl, hb1⟩; rw [hga]; have z1 := hb1.size)
          | (go_at_call_of 16 b; refine (refGood_any A2 d B2 b HFB.out hb0 _ (by omega) (h2.below (hb1.mono hB2))).mono ?_; rintro e w2 ⟨rfl, hb2⟩; rw [hgb]; have z2 := hb2.size; have b2 := hb1.trans (hb2.mono z1); clear hb2)
          | (go_at_call_of 18 a; refine (refTotal_any A c B a HFA.out ha _ (by omega) (h1.below (b2.mono hB))).mono ?_; rintro e w3 ⟨rfl, hb3⟩; rw [HTA.out]; have z3 := hb3.size; have b3 := b2.trans (hb3.mono (by omega)); clear hb3)
          | (go_at_call_of 18 b; refine (refTotal_any A2 d B2 b HFB.out hb0 _ (by omega) (h2.below (b3.mono hB2))).mono ?_; rintro e w4 ⟨rfl, hb4⟩; rw [HTB.out]; have z4 := hb4.size; have b4 := b3.trans (hb4.mono (by omega)); clear hb4))
        go_ret2
        rw [HR.out]
        exact gives_nil b4
    · have HR := Lib.hid (catOf_bad (a := a) (b := b) (fun h => hgb h.2))
      have hgb' : goodB b = false := by simpa using hgb
      clear hgb
      go_enter Try.func26, Try.ntmps26
      go_wp2_with (first
        | (go_at_call_of 16 a; refine (refGood_any A c B a HFA.out ha _ hB h1).mono ?_; rintro e w1 ⟨rfl, hb1⟩; rw [hga]; have z1 := hb1.size)
        | (go_at_call_of 16 b; refine (refGood_any A2 d B2 b HFB.out hb0 _ (by omega) (h2.below (hb1.mono hB2))).mono ?_; rintro e w2 ⟨rfl, hb2⟩; rw [hgb']; have z2 := hb2.size; have b2 := hb1.trans (hb2.mono z1); clear hb2))
      go_ret2
      rw [HR.out]
      exact gives_nil b2
  · have HR := Lib.hid (catOf_bad (a := a) (b := b) (fun h => hga h.1))
    have hga' : goodB a = false := by simpa using hga
    clear hga
    go_enter Try.func26, Try.ntmps26
    go_wp2_with (go_at_call_of 16 a; refine (refGood_any A c B a HFA.out ha _ hB h1).mono ?_; rintro e w1 ⟨rfl, hb1⟩; rw [hga'])
    go_ret2
    rw [HR.out]
    exact gives_nil hb1

def spliceOf (l : List RunP) (f t : Int) (m : List RunP) : List RunP × Nat :=
  if withinB l f t = true ∧ goodB m = true then
    (if ((bytesOf l).length : Int) - (t - f) + ((bytesOf m).length : Int) ≤ 4096 then (pack ((bytesOf l).take f.toNat ++ bytesOf m ++ (bytesOf l).drop t.toNat), 0) else ([], 3))
  else ([], 2)
theorem spliceOf_bad {l m : List RunP} {f t : Int} (h : ¬ (withinB l f t = true ∧ goodB m = true)) : spliceOf l f t m = ([], 2) := if_neg h
theorem spliceOf_big {l m : List RunP} {f t : Int} (h1 : withinB l f t = true) (h2 : goodB m = true) (h : ¬ ((bytesOf l).length : Int) - (t - f) + ((bytesOf m).length : Int) ≤ 4096) : spliceOf l f t m = ([], 3) := by unfold spliceOf; rw [if_pos ⟨h1, h2⟩, if_neg h]
theorem spliceOf_ok {l m : List RunP} {f t : Int} (h1 : withinB l f t = true) (h2 : goodB m = true) (h : ((bytesOf l).length : Int) - (t - f) + ((bytesOf m).length : Int) ≤ 4096) : spliceOf l f t m = (pack ((bytesOf l).take f.toNat ++ bytesOf m ++ (bytesOf l).drop t.toNat), 0) := by unfold spliceOf; rw [if_pos ⟨h1, h2⟩, if_pos h]
def raiseOf (l : List RunP) (f t : Int) (y : Nat) : List RunP × Nat :=
  if withinB l f t = true then (pack ((bytesOf l).take f.toNat ++ (cut (bytesOf l) f t).map (fun x => x ||| y) ++ (bytesOf l).drop t.toNat), 0) else ([], 2)
theorem raiseOf_bad {l : List RunP} {f t : Int} {y : Nat} (h : ¬ withinB l f t = true) : raiseOf l f t y = ([], 2) := if_neg h
theorem raiseOf_ok {l : List RunP} {f t : Int} {y : Nat} (h : withinB l f t = true) : raiseOf l f t y = (pack ((bytesOf l).take f.toNat ++ (cut (bytesOf l) f t).map (fun x => x ||| y) ++ (bytesOf l).drop t.toNat), 0) := if_pos h
theorem cut_front {b : List Nat} {t : Int} : cut b 0 t = b.take t.toNat := by unfold cut; simp
theorem cut_back {b : List Nat} {f : Int} (h : 0 ≤ f) : cut b f (b.length : Int) = b.drop f.toNat := by
  unfold cut
  exact List.take_of_length_le (by rw [List.length_drop]; omega)
end Go.Proofs.Ythdflibljngjiaa

/-
  Parts that are put together again; what was spliced in, taken out: layer 3, as plain lists.
-/
import Derived.Test.YthdflibljngjiaaRunLens
namespace Go.Proofs.Ythdflibljngjiaa
open Go.RowKit

theorem within_iff (l : List RunP) (f t : Int) : withinB l f t = true ↔ goodB l = true ∧ 0 ≤ f ∧ f ≤ t ∧ t ≤ (totalOf l : Int) := by
  unfold withinB; simp
theorem bytes_lt {l : List RunP} (hf : Fits l) : ∀ x ∈ bytesOf l, x < 18446744073709551616 := bytesOf_mem hf

theorem parts_ok {l : List RunP} (hf : Fits l) {p : Int} (hg : goodB l = true) (h0 : 0 ≤ p) (h1 : p ≤ (totalOf l : Int)) :
    ∃ P Q : List RunP, sliceOf l 0 p = (P, 0) ∧ sliceOf l p (totalOf l : Nat) = (Q, 0) ∧ catOf P Q = (l, 0) ∧ (totalOf P : Int) = p ∧ Fits P ∧ Fits Q ∧ P.length ≤ maxLen ∧ Q.length ≤ maxLen := by
  have ht := totalOf_good hg
  have hl : (bytesOf l).length ≤ 4096 := by rw [bytesOf_len]; exact ((goodB_iff l).1 hg).1
  have hb := bytes_lt hf
  have e1 : sliceOf l 0 p = (pack ((bytesOf l).take p.toNat), 0) := by
    unfold sliceOf
    rw [if_pos ((within_iff _ _ _).2 ⟨hg, Int.le_refl _, h0, h1⟩), cut_front]
  have e2 : sliceOf l p (totalOf l : Nat) = (pack ((bytesOf l).drop p.toNat), 0) := by
    unfold sliceOf
    rw [if_pos ((within_iff _ _ _).2 ⟨hg, h0, h1, Int.le_refl _⟩), ht, cut_back h0]
  have l1 : ((bytesOf l).take p.toNat).length ≤ 4096 := by rw [List.length_take]; omega
  have l2 : ((bytesOf l).drop p.toNat).length ≤ 4096 := by rw [List.length_drop]; omega
  refine ⟨_, _, e1, e2, ?_, ?_, fits_pack (fun x hx => hb x (List.mem_of_mem_take hx)) l1, fits_pack (fun x hx => hb x (List.mem_of_mem_drop hx)) l2, pack_small l1, pack_small l2⟩
  · rw [catOf_ok (goodB_pack l1) (goodB_pack l2) (by rw [bytesOf_pack, bytesOf_pack, ← List.length_append, List.take_append_drop]; exact hl), bytesOf_pack, bytesOf_pack, List.take_append_drop, goodB_eq hg]
  · rw [totalOf_good (goodB_pack l1), bytesOf_pack, List.length_take]; omega

theorem undone_ok {l m : List RunP} (hf : Fits l) (hf2 : Fits m) {F T : Nat} (hw : withinB l F T = true) (hg2 : goodB m = true) (hbig : ((bytesOf l).length : Int) - ((T : Int) - F) + ((bytesOf m).length : Int) ≤ 4096) :
    ∃ O X : List RunP, sliceOf l F T = (O, 0) ∧ spliceOf l F T m = (X, 0) ∧ sliceOf X F ((F : Int) + (totalOf m : Nat)) = (m, 0) ∧ spliceOf X F ((F : Int) + (totalOf m : Nat)) O = (l, 0) ∧ Fits O ∧ Fits X ∧ O.length ≤ maxLen ∧ X.length ≤ maxLen := by
  obtain ⟨hg, h0, h1, h2, hl, hs⟩ := within_of hw
  have hm : (bytesOf m).length ≤ 4096 := by rw [bytesOf_len]; exact ((goodB_iff m).1 hg2).1
  have hb := bytes_lt hf
  have ht2 := totalOf_good hg2
  have hc := cut_len h0 h1 h2
  have hO : (cut (bytesOf l) F T).length ≤ 4096 := by omega
  have hX := splice_size (m := bytesOf m) h0 h1 h2
  rw [Int.toNat_natCast, Int.toNat_natCast] at hX
  have hX4 : ((bytesOf l).take F ++ bytesOf m ++ (bytesOf l).drop T).length ≤ 4096 := by omega
  have eO : sliceOf l F T = (pack (cut (bytesOf l) F T), 0) := if_pos hw
  have eX : spliceOf l F T m = (pack ((bytesOf l).take F ++ bytesOf m ++ (bytesOf l).drop T), 0) := by
    rw [spliceOf_ok hw hg2 hbig, Int.toNat_natCast, Int.toNat_natCast]
  have gX := goodB_pack hX4
  have bX := bytesOf_pack ((bytesOf l).take F ++ bytesOf m ++ (bytesOf l).drop T)
  have tX := totalOf_good gX
  rw [bX] at tX
  have hF : ((bytesOf l).take F).length = F := by rw [List.length_take]; omega
  have hwX : withinB (pack ((bytesOf l).take F ++ bytesOf m ++ (bytesOf l).drop T)) F ((F : Int) + (totalOf m : Nat)) = true :=
    (within_iff _ _ _).2 ⟨gX, by omega, by omega, by rw [tX, ht2]; omega⟩
  refine ⟨_, _, eO, eX, ?_, ?_, fits_pack (cut_mem hb) hO, fits_pack (mem_append_lt (mem_append_lt (fun x hx => hb x (List.mem_of_mem_take hx)) (bytes_lt hf2)) (fun x hx => hb x (List.mem_of_mem_drop hx))) hX4, pack_small hO, pack_small hX4⟩
  · unfold sliceOf
    rw [if_pos hwX, bX, ht2]
    have : cut ((bytesOf l).take F ++ bytesOf m ++ (bytesOf l).drop T) F ((F : Int) + ((bytesOf m).length : Nat)) = bytesOf m := by
      unfold cut
      rw [Int.toNat_natCast, show ((F : Int) + ((bytesOf m).length : Nat) - (F : Int)).toNat = (bytesOf m).length by omega, List.append_assoc, List.drop_append_of_le_length (by omega), List.drop_of_length_le (by omega), List.nil_append, List.take_append_of_le_length (by omega), List.take_length]
    rw [this, goodB_eq hg2]
  · have e1 : ((bytesOf l).take F ++ bytesOf m ++ (bytesOf l).drop T).take F = (bytesOf l).take F := by
      rw [List.append_assoc, List.take_append_of_le_length (by omega), List.take_of_length_le (by omega)]
    have e2 : ((bytesOf l).take F ++ bytesOf m ++ (bytesOf l).drop T).drop (F + (bytesOf m).length) = (bytesOf l).drop T := by
      have : (F + (bytesOf m).length) = ((bytesOf l).take F ++ bytesOf m).length := by rw [List.length_append, hF]
      rw [this, List.drop_left]
    have hT : ((F : Int) + ((bytesOf m).length : Nat)).toNat = F + (bytesOf m).length := by omega
    rw [spliceOf_ok hwX (goodB_pack hO) (by rw [bX, bytesOf_pack, ht2]; omega), bX, bytesOf_pack, Int.toNat_natCast, ht2, hT, e1, e2]
    have e3 : (bytesOf l).take F ++ cut (bytesOf l) F T ++ (bytesOf l).drop T = bytesOf l := by
      unfold cut
      rw [Int.toNat_natCast, show ((T : Int) - (F : Int)).toNat = T - F by omega]
      have e4 : (bytesOf l).take F ++ ((bytesOf l).drop F).take (T - F) = (bytesOf l).take T := by
        rw [← List.take_add, show F + (T - F) = T by omega]
      rw [e4, List.take_append_drop]
    rw [e3, goodB_eq hg]
theorem undone_no {l m : List RunP} {f t : Int} (h : ¬ (withinB l f t = true ∧ goodB m = true ∧ ((bytesOf l).length : Int) - (t - f) + ((bytesOf m).length : Int) ≤ 4096)) :
    (sliceOf l f t = ([], 2) ∧ spliceOf l f t m = ([], 2)) ∨ (∃ O, sliceOf l f t = (O, 0) ∧ spliceOf l f t m = ([], 2)) ∨ (∃ O, sliceOf l f t = (O, 0) ∧ spliceOf l f t m = ([], 3)) := by
  by_cases hw : withinB l f t = true
  · right
    by_cases hg : goodB m = true
    · right
      exact ⟨_, if_pos hw, spliceOf_big hw hg (fun hb => h ⟨hw, hg, hb⟩)⟩
    · left
      exact ⟨_, if_pos hw, spliceOf_bad (fun hb => hg hb.2)⟩
  · left
    exact ⟨if_neg hw, spliceOf_bad (fun hb => hw hb.1)⟩
theorem Blk.drewN {w : World} {g T : Nat} {cs : Array Value} (h : Blk w g T cs) (n : Nat) : Blk (w.drewN n) g T cs := h
theorem cell_first {w : World} {g T : Nat} {u v : Value} (h : Blk w g T #[u, v]) : w.cell? ⟨g, 0, none⟩ = some u := by have := h.cell 0; simpa using this
end Go.Proofs.Ythdflibljngjiaa

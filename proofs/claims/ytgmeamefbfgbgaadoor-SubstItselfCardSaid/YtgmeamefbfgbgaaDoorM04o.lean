/-
  Merged: StpGood, StpMake, StpSame, StpCut, StpSplice, StpSeen, StpView, StpSays.
-/
import Derived.Test.YtgmeamefbfgbgaaDoorM04
import Derived.Test.YtgmeamefbfgbgaaDoorM03o
import Derived.Test.YtgmeamefbfgbgaaDoorM03
import Derived.StillTailTactics
import Derived.Test.YtgmeamefbfgbgaaDoorM04s
import Derived.Test.YtgmeamefbfgbgaaDoorM01
import Derived.Laws.IdiomStrings
/-
  The landed Good: layer 4.
-/
namespace Go.Proofs.YtgmeamefbfgbgaaDoor
set_option maxRecDepth 100000
open Go.RowKit

set_option maxHeartbeats 1000000 in
theorem stpGood_any (A : Option Addr) (c B : Nat) (S : List UInt8) (l : List RunP) (w : World) (hB : B ≤ w.heap.size) (h : Txt w B A S l) :
    Calls Tryd.prog 47 #[.agg #[.string ⟨S.toArray⟩, .slice A l.length c]] w fun e w' => e = .returned (.bool (goodT S l)) ∧ Below w.heap.size w w' := by
  obtain ⟨hS, hf, hl, row⟩ := h
  have HF := Lib.hid hf
  clear hf
  have Q := Lib.hid (Blk.new w 24 #[.string ⟨S.toArray⟩, .slice A l.length c])
  have SX : Hid ((w.alloc (.cells #[.string ⟨S.toArray⟩, .slice A l.length c] 24)).heap.size = w.heap.size + 1) := by show _ = _; simp
  have B0 : Hid (Below w.heap.size w (w.alloc (.cells #[.string ⟨S.toArray⟩, .slice A l.length c] 24)).drew) := ((Below.refl _ w).alloc (Nat.le_refl _) _).drew
  have R0 := Lib.hid (row.below (B0.out.mono hB))
  have S0 : Hid ((w.alloc (.cells #[.string ⟨S.toArray⟩, .slice A l.length c] 24)).drew.heap.size = w.heap.size + 1) := SX.out
  have K0 := Lib.hid (txt_cells (Q.out.drewN 1))
  have Q0 := Lib.hid (Q.out.drewN 1)
  by_cases hg : goodB l = true
  · by_cases ht : ((totalOf l : Int) == (S.length : Int)) = true
    · have HR : Hid (goodT S l = true) := by show _ = _; unfold goodT; rw [hg, ht]; rfl
      go_enter Tryd.func47, Tryd.ntmps47
      go_wp2_with fail
      go_region_held3 (fun w' => w'.cell? ⟨w.heap.size, 0, none⟩ = some (.string ⟨S.toArray⟩) ∧ w'.cell? ⟨w.heap.size, 1, none⟩ = some (.slice A l.length c))
        (first
          | exact K0.out
          | exact K1.out
          | exact K2.out)
        (first
          | (go_at_call 73; refine (runGood_any A c B l HF.out hl _ (by rw [S0.out]; omega) R0.out).mono ?_; rintro e w1 ⟨rfl, hb1⟩; rw [hg]; have Q1 := Lib.hid (Q0.out.below hb1 (by rw [S0.out]; omega)); have K1 := Lib.hid (txt_cells Q1.out); have z1 : w.heap.size + 1 ≤ w1.heap.size := by {have := hb1.size; rw [S0.out] at this; exact this}; have b1 := B0.out.trans (hb1.mono (by rw [S0.out]; omega)); clear hb1)
          | (go_at_call 74; refine (runTotal_any A c B l HF.out hl w1 (by omega) (row.below (b1.mono hB))).mono ?_; rintro e w2 ⟨rfl, hb2⟩; have K2 := Lib.hid (txt_cells (Q1.out.below hb2 (by omega))); have b2 := b1.trans (hb2.mono (by omega)); clear hb2))
      go_wp2
      go_ret
      exact ⟨by rw [HR.out]; rfl, b2⟩
    · have ht' : ((totalOf l : Int) == (S.length : Int)) = false := by simpa using ht
      clear ht
      have HR : Hid (goodT S l = false) := by show _ = _; unfold goodT; rw [hg, ht']; rfl
      go_enter Tryd.func47, Tryd.ntmps47
      go_wp2_with fail
      go_region_held3 (fun w' => w'.cell? ⟨w.heap.size, 0, none⟩ = some (.string ⟨S.toArray⟩) ∧ w'.cell? ⟨w.heap.size, 1, none⟩ = some (.slice A l.length c))
        (first
          | exact K0.out
          | exact K1.out
          | exact K2.out)
        (first
          | (go_at_call 73; refine (runGood_any A c B l HF.out hl _ (by rw [S0.out]; omega) R0.out).mono ?_; rintro e w1 ⟨rfl, hb1⟩; rw [hg]; have Q1 := Lib.hid (Q0.out.below hb1 (by rw [S0.out]; omega)); have K1 := Lib.hid (txt_cells Q1.out); have z1 : w.heap.size + 1 ≤ w1.heap.size := by {have := hb1.size; rw [S0.out] at this; exact this}; have b1 := B0.out.trans (hb1.mono (by rw [S0.out]; omega)); clear hb1)
          | (go_at_call 74; refine (runTotal_any A c B l HF.out hl w1 (by omega) (row.below (b1.mono hB))).mono ?_; rintro e w2 ⟨rfl, hb2⟩; have K2 := Lib.hid (txt_cells (Q1.out.below hb2 (by omega))); have b2 := b1.trans (hb2.mono (by omega)); clear hb2))
      go_wp2
      go_ret
      exact ⟨by rw [HR.out]; rfl, b2⟩
  · have hg' : goodB l = false := by simpa using hg
    have HR : Hid (goodT S l = false) := by show _ = _; unfold goodT; rw [hg']; rfl
    go_enter Tryd.func47, Tryd.ntmps47
    go_wp2_with fail
    refine wp_region_noPanic ?_
    refine wp_region_held_drew (S := fun w' => w'.cell? ⟨w.heap.size, 0, none⟩ = some (.string ⟨S.toArray⟩) ∧ w'.cell? ⟨w.heap.size, 1, none⟩ = some (.slice A l.length c)) (by kernel_rfl) K0.out (fun hS => ?_)
    refine wpAnyH_take (i := 0) (v := .pointer (some ⟨w.heap.size, 1, none⟩)) rfl (by kernel_rfl) (by kernel_rfl) (by kernel_rfl) (fun _ _ _ h => h) (Or.inl ⟨by rfl, fun w' hw' => ?_⟩) hS ?_
    · obtain ⟨y0, y1⟩ := hw'
      go_simp
    try simp only [Act.put, List.getElem_toArray, List.getElem_cons_zero, List.setIfInBounds_toArray, List.set_cons_zero, List.set_cons_succ]
    refine wpAnyH_take (i := 1) (v := .slice A l.length c) rfl (by kernel_rfl) (by kernel_rfl) (by kernel_rfl) (fun _ _ _ h => h) (Or.inl ⟨by rfl, fun w' hw' => ?_⟩) hS ?_
    · obtain ⟨y0, y1⟩ := hw'
      go_simp
    try simp only [Act.put, List.getElem_toArray, List.getElem_cons_succ, List.getElem_cons_zero, List.setIfInBounds_toArray, List.set_cons_zero, List.set_cons_succ]
    refine wpAnyH_ready (rs := [2]) (by kernel_rfl) (by simp) ?_
    refine AllReadyH.cons rfl (fun K hK => ?_) AllReadyH.nil
    go_simp
    refine (runGood_any A c B l HF.out hl _ (by rw [S0.out]; omega) R0.out).mono ?_
    rintro e w1 ⟨rfl, hb1⟩
    rw [hg']
    have Q1 := Lib.hid (Q0.out.below hb1 (by rw [S0.out]; omega))
    have K1 := Lib.hid (txt_cells Q1.out)
    have b1 := B0.out.trans (hb1.mono (by rw [S0.out]; omega))
    clear hb1
    refine hK.out _ _ K1.out (fun hS => ?_)
    try simp only [Act.put, List.getElem_toArray, List.getElem_cons_succ, List.getElem_cons_zero, List.setIfInBounds_toArray, List.set_cons_zero, List.set_cons_succ]
    refine wpAnyH_take (i := 3) (v := .bool false) rfl (by kernel_rfl) (by kernel_rfl) (by kernel_rfl) (fun _ _ _ h => h) (Or.inl ⟨by rfl, fun w' hw' => ?_⟩) hS ?_
    · obtain ⟨y0, y1⟩ := hw'
      go_simp
    try simp only [Act.put, List.getElem_toArray, List.getElem_cons_succ, List.getElem_cons_zero, List.setIfInBounds_toArray, List.set_cons_zero, List.set_cons_succ]
    refine wpAnyH_take (i := 4) (v := undef) rfl (by kernel_rfl) (by kernel_rfl) (by kernel_rfl) (fun _ _ _ h => h) (Or.inr ⟨by rfl, rfl⟩) hS ?_
    try simp only [Act.put, List.getElem_toArray, List.getElem_cons_succ, List.getElem_cons_zero, List.setIfInBounds_toArray, List.set_cons_zero, List.set_cons_succ]
    refine wpAnyH_take (i := 5) (v := undef) rfl (by kernel_rfl) (by kernel_rfl) (by kernel_rfl) (fun _ _ _ h => h) (Or.inr ⟨by rfl, rfl⟩) hS ?_
    try simp only [Act.put, List.getElem_toArray, List.getElem_cons_succ, List.getElem_cons_zero, List.setIfInBounds_toArray, List.set_cons_zero, List.set_cons_succ]
    refine wpAnyH_take (i := 6) (v := undef) rfl (by kernel_rfl) (by kernel_rfl) (by kernel_rfl) (fun _ _ _ h => h) (Or.inr ⟨by rfl, rfl⟩) hS ?_
    try simp only [Act.put, List.getElem_toArray, List.getElem_cons_succ, List.getElem_cons_zero, List.setIfInBounds_toArray, List.set_cons_zero, List.set_cons_succ]
    refine wpAnyH_take (i := 7) (v := undef) rfl (by kernel_rfl) (by kernel_rfl) (by kernel_rfl) (fun _ _ _ h => h) (Or.inr ⟨by rfl, rfl⟩) hS ?_
    try simp only [Act.put, List.getElem_toArray, List.getElem_cons_succ, List.getElem_cons_zero, List.setIfInBounds_toArray, List.set_cons_zero, List.set_cons_succ]
    refine wpAnyH_take (i := 8) (v := undef) rfl (by kernel_rfl) (by kernel_rfl) (by kernel_rfl) (fun _ _ _ h => h) (Or.inr ⟨by rfl, rfl⟩) hS ?_
    try simp only [Act.put, List.getElem_toArray, List.getElem_cons_succ, List.getElem_cons_zero, List.setIfInBounds_toArray, List.set_cons_zero, List.set_cons_succ]
    refine wpAnyH_take (i := 9) (v := undef) rfl (by kernel_rfl) (by kernel_rfl) (by kernel_rfl) (fun _ _ _ h => h) (Or.inr ⟨by rfl, rfl⟩) hS ?_
    try simp only [Act.put, List.getElem_toArray, List.getElem_cons_succ, List.getElem_cons_zero, List.setIfInBounds_toArray, List.set_cons_zero, List.set_cons_succ]
    refine wpAnyH_take (i := 10) (v := undef) rfl (by kernel_rfl) (by kernel_rfl) (by kernel_rfl) (fun _ _ _ h => h) (Or.inr ⟨by rfl, rfl⟩) hS ?_
    try simp only [Act.put, List.getElem_toArray, List.getElem_cons_succ, List.getElem_cons_zero, List.setIfInBounds_toArray, List.set_cons_zero, List.set_cons_succ]
    refine wpAnyH_take (i := 11) (v := .bool false) rfl (by kernel_rfl) (by kernel_rfl) (by kernel_rfl) (fun _ _ _ h => h) (Or.inl ⟨by rfl, fun w' hw' => ?_⟩) hS ?_
    · obtain ⟨y0, y1⟩ := hw'
      go_simp
    try simp only [Act.put, List.getElem_toArray, List.getElem_cons_succ, List.getElem_cons_zero, List.setIfInBounds_toArray, List.set_cons_zero, List.set_cons_succ]
    refine wpAnyH_take (i := 12) (v := .bool false) rfl (by kernel_rfl) (by kernel_rfl) (by kernel_rfl) (fun _ _ _ h => h) (Or.inl ⟨by rfl, fun w' hw' => ?_⟩) hS ?_
    · obtain ⟨y0, y1⟩ := hw'
      go_simp
    try simp only [Act.put, List.getElem_toArray, List.getElem_cons_succ, List.getElem_cons_zero, List.setIfInBounds_toArray, List.set_cons_zero, List.set_cons_succ]
    refine wpAnyH_done (by kernel_rfl) ?_ _
    refine NoPanic.normal ?_
    go_wp2
    go_ret
    exact ⟨by rw [HR.out]; rfl, b1⟩
end Go.Proofs.YtgmeamefbfgbgaaDoor

/-
  The landed Label, Make, Same: layer 4.
-/
namespace Go.Proofs.YtgmeamefbfgbgaaDoor
set_option maxRecDepth 100000
open Go.RowKit

theorem foldl_or_rep (a x : Nat) : ∀ n : Nat, 0 < n → (List.replicate n x).foldl (fun a b => a ||| b) a = a ||| x := by
  intro n hn
  induction n generalizing a with
  | zero => omega
  | succ n ih =>
    rw [List.replicate_succ, List.foldl_cons]
    by_cases h0 : n = 0
    · subst h0; rfl
    · rw [ih _ (by omega), Nat.or_assoc, Nat.or_self]
theorem foldl_or_bytes (l : List RunP) : ∀ a : Nat, (bytesOf l).foldl (fun a b => a ||| b) a = (someOf l).foldl (fun a b => a ||| b) a := by
  induction l with
  | nil => intro a; rfl
  | cons r l ih =>
    intro a
    rw [bytesOf_cons, List.foldl_append, ih]
    unfold someOf
    by_cases h : 0 < r.2
    · rw [List.filter_cons_of_pos (by simpa using h), List.map_cons, List.foldl_cons, foldl_or_rep _ _ _ (by omega)]
    · rw [List.filter_cons_of_neg (by simpa using h)]
      have : r.2.toNat = 0 := by omega
      rw [this]; rfl
theorem joinAllN_some (l : List RunP) : joinAllN (someOf l) = joinAllN (bytesOf l) := (foldl_or_bytes l 0).symm

theorem normal_one (n x : Nat) : normalOf [(x, (n : Int))] = if n ≤ 4096 then (pack (List.replicate n x), 0) else ([], 3) := by
  have hs : sumN [(x, (n : Int))] = n := by simp [sumN]
  have hb : bytesOf [(x, (n : Int))] = List.replicate n x := by simp [bytesOf]
  unfold normalOf
  rw [if_neg (by rintro ⟨r, hr, h⟩; simp at hr; subst hr; dsimp only at h; omega), hs, hb]

end Go.Proofs.YtgmeamefbfgbgaaDoor

/-
  The landed comparison of runs, and Same: layer 4.
-/
namespace Go.Proofs.YtgmeamefbfgbgaaDoor
set_option maxRecDepth 100000
open Go.RowKit

set_option maxHeartbeats 1000000 in
theorem eqRuns_any (A A2 : Option Addr) (c d B B2 : Nat) (l m : List RunP) (hl : l.length ≤ maxLen) (hm : m.length ≤ maxLen) (w : World) (_hB : B ≤ w.heap.size) (_hB2 : B2 ≤ w.heap.size) (h1 : Row w B A (flatR l)) (h2 : Row w B2 A2 (flatR m)) :
    Calls Tryd.prog 79 #[.slice A l.length c, .slice A2 m.length d] w fun e w' => e = .returned (.bool (decide (l = m))) ∧ Below w.heap.size w w' := by
  unfold maxLen at hl hm
  go_enter Tryd.func79, Tryd.ntmps79
  by_cases hlen : l.length = m.length
  · generalize hn : m.length = n at *
    have HN := Lib.hid hn
    clear hn
    subst hlen
    go_wp2
    go_loopw [13] (fun i wr => ∃ k : Nat, k ≤ l.length ∧ i = .int .i64 k ∧ Hid (l.take k = m.take k) ∧ Row wr B A (flatR l) ∧ Row wr B2 A2 (flatR m) ∧ Below w.heap.size w wr) (fun i _ => l.length - (intOf i).toNat)
    case atStart => exact ⟨0, Nat.zero_le _, rfl, rfl, h1, h2, Below.refl _ _⟩
    case round =>
      obtain ⟨k, hk, rfl, HT, h1, h2, hbl⟩ := hrel
      by_cases hlt : k < l.length
      · have hlt2 : k < m.length := by rw [HN.out]; exact hlt
        obtain ⟨ad, rfl, _, c0, c1⟩ := run_cells h1 hlt
        obtain ⟨ae, rfl, _, d0, d1⟩ := run_cells h2 hlt2
        have HT2 : Hid (l[k] = m[k] → l.take (k + 1) = m.take (k + 1)) := fun h => by
          have e1 := List.take_succ_eq_append_getElem hlt
          have e2 := List.take_succ_eq_append_getElem hlt2
          rw [e1, e2, HT.out, h]
        have HF : Hid (l[k] ≠ m[k] → l ≠ m) := fun hne e => hne (by subst e; rfl)
        generalize l[k] = r at *
        generalize m[k] = s at *
        obtain ⟨x, i⟩ := r
        obtain ⟨y, j⟩ := s
        dsimp only at *
        by_cases he : x = y ∧ i = j
        · obtain ⟨rfl, rfl⟩ := he
          go_wp2
          go_quiet (fail)
          go_wp2
          go_roundw
          case rel => exact ⟨k + 1, by omega, by go_num, (by first | exact HT2.out rfl | exact HT2.out trivial | exact HT2.out), h1.drewN _, h2.drewN _, below_drewN hbl _⟩
          case measure => simp [intOf]; omega
        · have HD : Hid (decide (l = m) = false) := decide_eq_false (HF.out (fun e => he (by injection e with e1 e2; exact ⟨e1, e2⟩)))
          by_cases hx : x = y
          · subst hx
            have hij : i ≠ j := fun e => he ⟨rfl, e⟩
            have ht : (i == j) = false := by simpa using hij
            go_wp2
            go_quiet (fail)
            go_wp2
            go_ret
            exact ⟨by rw [HD.out]; rfl, below_drewN hbl _⟩
          · have ht : ((x : Int) == (y : Int)) = false := by simp; omega
            go_wp2
            go_quiet (fail)
            go_wp2
            go_ret
            exact ⟨by rw [HD.out]; rfl, below_drewN hbl _⟩
      · obtain rfl : k = l.length := by omega
        have HE : Hid (l = m) := by
          have := HT.out
          rw [List.take_length, ← HN.out, List.take_length] at this
          exact this
        go_wp2
        go_ret
        exact ⟨by rw [decide_eq_true HE.out]; rfl, hbl⟩
  · have hne : decide (l = m) = false := decide_eq_false (fun e => hlen (by rw [e]))
    have HD := Lib.hid hne
    clear hne
    have ht : ((l.length : Int) == (m.length : Int)) = false := by simp; omega
    go_wp2
    go_ret
    exact ⟨by rw [HD.out]; rfl, Below.refl _ _⟩

set_option maxHeartbeats 1000000 in
theorem stpSame_any (A A2 : Option Addr) (c d B B2 : Nat) (S T : List UInt8) (l m : List RunP) (w : World) (hB : B ≤ w.heap.size) (hB2 : B2 ≤ w.heap.size) (h : Txt w B A S l) (hh : Txt w B2 A2 T m) :
    Calls Tryd.prog 53 #[.agg #[.string ⟨S.toArray⟩, .slice A l.length c], .agg #[.string ⟨T.toArray⟩, .slice A2 m.length d]] w fun e w' => e = .returned (.bool (decide (S = T ∧ l = m))) ∧ Below w.heap.size w w' := by
  have HH := Lib.hid h
  have HH2 := Lib.hid hh
  clear h hh
  have B0 : Hid (Below w.heap.size w ((w.alloc (.cells #[.string ⟨S.toArray⟩, .slice A l.length c] 24)).alloc (.cells #[.string ⟨T.toArray⟩, .slice A2 m.length d] 24))) := ((Below.refl _ w).alloc (Nat.le_refl _) _).alloc (by simp) _
  have SX : Hid (((w.alloc (.cells #[.string ⟨S.toArray⟩, .slice A l.length c] 24)).alloc (.cells #[.string ⟨T.toArray⟩, .slice A2 m.length d] 24)).heap.size = w.heap.size + 2) := by show _ = _; simp
  by_cases hst : S = T
  · subst hst
    have HD : Hid (decide (S = S ∧ l = m) = decide (l = m)) := decide_eq_decide.2 (by simp)
    go_enter Tryd.func53, Tryd.ntmps53
    go_wp2_with (go_at_call 79; refine (eqRuns_any A A2 c d B B2 l m HH.out.hl HH2.out.hl _ (by rw [SX.out]; omega) (by rw [SX.out]; omega) (HH.out.row.below (B0.out.mono hB)) (HH2.out.row.below (B0.out.mono hB2))).mono ?_; rintro e w1 ⟨rfl, hb1⟩)
    go_ret
    exact ⟨by rw [HD.out]; rfl, B0.out.trans (hb1.mono (by rw [SX.out]; omega))⟩
  · have HD : Hid (decide (S = T ∧ l = m) = false) := decide_eq_false (fun h => hst h.1)
    have ht : (S == T) = false := by simpa using hst
    go_enter Tryd.func53, Tryd.ntmps53
    go_wp2_with fail
    go_ret
    exact ⟨by rw [HD.out]; rfl, B0.out⟩
end Go.Proofs.YtgmeamefbfgbgaaDoor

/-
  The landed Cut and Raise: layer 4.
-/
namespace Go.Proofs.YtgmeamefbfgbgaaDoor
set_option maxRecDepth 100000
open Go.RowKit

theorem withinT_B {S : List UInt8} {l : List RunP} (hg : goodT S l = true) (f t : Int) : withinT S l f t = withinB l f t := by
  have h := (goodT_iff S l).1 hg
  have ht := totalOf_good h.1
  unfold withinT withinB
  rw [hg, h.1, ht, h.2]
theorem cut_slice {S : List UInt8} {l : List RunP} (hg : goodT S l = true) (f t : Int) : cutOf S l f t = (((if (sliceOf l f t).2 = 0 then (S.drop f.toNat).take (t - f).toNat else [], (sliceOf l f t).1)), (sliceOf l f t).2) := by
  unfold cutOf sliceOf
  rw [withinT_B hg]
  by_cases h : withinB l f t = true
  · rw [if_pos h, if_pos h]; rfl
  · rw [if_neg h, if_neg h]; rfl
theorem raise_all {S : List UInt8} {l : List RunP} (hg : goodT S l = true) (y : Nat) : raiseOf l 0 (S.length : Nat) y = (pack ((bytesOf l).map fun x => x ||| y), 0) := by
  have h := (goodT_iff S l).1 hg
  have hw : withinB l 0 (S.length : Nat) = true := by
    rw [← withinT_B hg]; unfold withinT; rw [hg]; simp
  rw [raiseOf_ok hw, ← h.2]
  congr 2
  rw [cut_front]
  simp

set_option maxHeartbeats 1000000 in
theorem stpCut_any (A : Option Addr) (c B : Nat) (S : List UInt8) (l : List RunP) (f t : Int) (w : World) (hB : B ≤ w.heap.size) (h : Txt w B A S l) :
    Calls Tryd.prog 52 #[.agg #[.string ⟨S.toArray⟩, .slice A l.length c], .int .i64 f, .int .i64 t] w (GivesT w (cutOf S l f t)) := by
  have HH := Lib.hid h
  clear h
  have Q := Lib.hid (box_and_var w 24 24 (.string ⟨S.toArray⟩) (.slice A l.length c))
  by_cases hg : goodT S l = true
  · have HC := Lib.hid (cut_slice hg f t)
    by_cases hw : withinT S l f t = true
    · have HS : Hid (sliceOf l f t = (pack (cut (bytesOf l) f t), 0)) := if_pos ((withinT_B hg f t).symm.trans hw)
      have HR : Hid (cutOf S l f t = _) := if_pos hw
      obtain ⟨_, h0, h1, h2⟩ := withinT_of hw
      obtain ⟨F, rfl⟩ : ∃ F : Nat, f = (F : Int) := ⟨f.toNat, by omega⟩
      obtain ⟨T, rfl⟩ : ∃ T : Nat, t = (T : Int) := ⟨t.toNat, by omega⟩
      have hFT : F ≤ T := by omega
      have hTS : T ≤ S.length := by omega
      clear HC
      go_enter Tryd.func52, Tryd.ntmps52
      go_wp2_with (first
        | (go_at_call 47; refine (stpGood_any A c B S l _ (by rw [Q.out.2.1]; omega) (HH.out.below (Q.out.1.mono hB))).mono ?_; rintro e w1 ⟨rfl, hb1⟩; rw [hg]; have z1 : w.heap.size + 2 ≤ w1.heap.size := by {have := hb1.size; rw [Q.out.2.1] at this; exact this}; have b1 := Q.out.1.trans (hb1.mono (by rw [Q.out.2.1]; omega)); have Q1 := Lib.hid (Q.out.2.2.1.below hb1 (by rw [Q.out.2.1]; omega)); have R1 := Lib.hid (Q.out.2.2.2.below hb1 (by rw [Q.out.2.1]; omega)); obtain ⟨y0, y1⟩ := txt_cells Q1.out; clear hb1)
        | (go_at_call 78; refine (runSlice_any A c B l F T HH.out.hf HH.out.hl w1 (by omega) (HH.out.row.below (b1.mono hB))).mono ?_; rw [HS.out]; rintro e w2 ⟨A2, c2, rfl, hown2, hb2⟩; have z2 := hb2.size; have b2 := b1.trans (hb2.mono (by omega)); have Q2 := Lib.hid (Q1.out.below hb2 (by omega)); have R2 := Lib.hid (R1.out.below hb2 (by omega)); clear y0 y1; obtain ⟨y0, y1⟩ := txt_cells Q2.out; obtain ⟨y4, y5, y6, y7⟩ := txt_var R2.out; have hown3 := own_base hown2 (base' := w1.heap.size) (Nat.le_refl _); clear hb2 hown2))
      have E := givesT_end ((S.drop F).take (T - F)) (text_cut S F T) 0 b2 R2.out (by omega) (by omega) hown3
      refine ret_text rfl _ _ (w.heap.size + 1) _ _ rfl E.1 rfl ?_
      rw [HR.out]
      rw [show ((T : Int) - (F : Int)).toNat = T - F by omega, Int.toNat_natCast]
      exact E.2
    · have HS : Hid (sliceOf l f t = ([], 2)) := if_neg (fun h => hw ((withinT_B hg f t).trans h))
      have HR : Hid (cutOf S l f t = (([], []), 2)) := if_neg hw
      clear HC hw
      go_enter Tryd.func52, Tryd.ntmps52
      go_wp2_with (first
        | (go_at_call 47; refine (stpGood_any A c B S l _ (by rw [Q.out.2.1]; omega) (HH.out.below (Q.out.1.mono hB))).mono ?_; rintro e w1 ⟨rfl, hb1⟩; rw [hg]; have z1 : w.heap.size + 2 ≤ w1.heap.size := by {have := hb1.size; rw [Q.out.2.1] at this; exact this}; have b1 := Q.out.1.trans (hb1.mono (by rw [Q.out.2.1]; omega)); have Q1 := Lib.hid (Q.out.2.2.1.below hb1 (by rw [Q.out.2.1]; omega)); have R1 := Lib.hid (Q.out.2.2.2.below hb1 (by rw [Q.out.2.1]; omega)); obtain ⟨y0, y1⟩ := txt_cells Q1.out; clear hb1)
        | (go_at_call 78; refine (runSlice_any A c B l f t HH.out.hf HH.out.hl w1 (by omega) (HH.out.row.below (b1.mono hB))).mono ?_; rw [HS.out]; rintro e w2 ⟨A2, c2, rfl, hown2, hb2⟩; have z2 := hb2.size; have b2 := b1.trans (hb2.mono (by omega)); have R2 := Lib.hid (R1.out.below hb2 (by omega)); clear y0 y1; obtain ⟨y4, y5, y6, y7⟩ := txt_var R2.out; clear hb2 hown2))
      have E := givesT_end (l := []) [] rfl 2 b2 R2.out (by omega) (Nat.lt_succ_self _) (World.ownsRow_nil _ _ _ _)
      refine ret_text rfl _ _ (w.heap.size + 1) _ _ rfl E.1 rfl ?_
      rw [HR.out]
      exact E.2
  · have HR : Hid (cutOf S l f t = (([], []), 2)) := if_neg (fun h => hg (withinT_of h).1)
    have hg' : goodT S l = false := by simpa using hg
    clear hg
    go_enter Tryd.func52, Tryd.ntmps52
    go_wp2_with (go_at_call 47; refine (stpGood_any A c B S l _ (by rw [Q.out.2.1]; omega) (HH.out.below (Q.out.1.mono hB))).mono ?_; rintro e w1 ⟨rfl, hb1⟩; rw [hg']; have z1 : w.heap.size + 2 ≤ w1.heap.size := by {have := hb1.size; rw [Q.out.2.1] at this; exact this}; have b1 := Q.out.1.trans (hb1.mono (by rw [Q.out.2.1]; omega)); have R1 := Lib.hid (Q.out.2.2.2.below hb1 (by rw [Q.out.2.1]; omega)); obtain ⟨y4, y5, y6, y7⟩ := txt_var R1.out; clear hb1)
    have E := givesT_end (l := []) [] rfl 2 b1 R1.out (by omega) (Nat.lt_succ_self _) (World.ownsRow_nil _ _ _ _)
    refine ret_text rfl _ _ (w.heap.size + 1) _ _ rfl E.1 rfl ?_
    rw [HR.out]
    exact E.2

end Go.Proofs.YtgmeamefbfgbgaaDoor

/-
  The landed Splice and Cat: layer 4.
-/
namespace Go.Proofs.YtgmeamefbfgbgaaDoor
set_option maxRecDepth 100000
open Go.RowKit

theorem splice_ok {S X : List UInt8} {l m : List RunP} {f t : Int} (hg : goodT S l = true) (hg2 : goodT X m = true) (hw : withinT S l f t = true) (hb : (S.length : Int) - (t - f) + (X.length : Int) ≤ 4096) :
    spliceOf l f t m = (pack ((bytesOf l).take f.toNat ++ bytesOf m ++ (bytesOf l).drop t.toNat), 0) := by
  have h1 := (goodT_iff S l).1 hg
  have h2 := (goodT_iff X m).1 hg2
  exact spliceOf_ok (by rw [← withinT_B hg]; exact hw) h2.1 (by rw [h1.2, h2.2]; exact hb)
theorem splice_big {S X : List UInt8} {l m : List RunP} {f t : Int} (hg : goodT S l = true) (hg2 : goodT X m = true) (hw : withinT S l f t = true) (hb : ¬ (S.length : Int) - (t - f) + (X.length : Int) ≤ 4096) : spliceOf l f t m = ([], 3) := by
  have h1 := (goodT_iff S l).1 hg
  have h2 := (goodT_iff X m).1 hg2
  exact spliceOf_big (by rw [← withinT_B hg]; exact hw) h2.1 (by rw [h1.2, h2.2]; exact hb)
theorem splice_out {S : List UInt8} {l m : List RunP} {f t : Int} (hg : goodT S l = true) (hw : ¬ withinT S l f t = true) : spliceOf l f t m = ([], 2) :=
  spliceOf_bad (fun h => hw (by rw [withinT_B hg]; exact h.1))

set_option maxHeartbeats 1600000 in
theorem stpSplice_any (A A2 : Option Addr) (c d B B2 : Nat) (S X : List UInt8) (l m : List RunP) (f t : Int) (w : World) (hB : B ≤ w.heap.size) (hB2 : B2 ≤ w.heap.size) (h : Txt w B A S l) (hh : Txt w B2 A2 X m) :
    Calls Tryd.prog 54 #[.agg #[.string ⟨S.toArray⟩, .slice A l.length c], .int .i64 f, .int .i64 t, .agg #[.string ⟨X.toArray⟩, .slice A2 m.length d]] w (GivesT w (spliceT S l f t X m)) := by
  have HH := Lib.hid h
  have HH2 := Lib.hid hh
  clear h hh
  have Q := Lib.hid (three_boxes w 24 24 24 (.string ⟨S.toArray⟩) (.slice A l.length c) (.string ⟨X.toArray⟩) (.slice A2 m.length d))
  by_cases hg : goodT S l = true
  · by_cases hg2 : goodT X m = true
    · by_cases hw : withinT S l f t = true
      · by_cases hbig : (S.length : Int) - (t - f) + (X.length : Int) ≤ 4096
        · obtain ⟨_, h0, h1, h2⟩ := withinT_of hw
          obtain ⟨F, rfl⟩ : ∃ F : Nat, f = (F : Int) := ⟨f.toNat, by omega⟩
          obtain ⟨T, rfl⟩ : ∃ T : Nat, t = (T : Int) := ⟨t.toNat, by omega⟩
          have hFT : F ≤ T := by omega
          have hTS : T ≤ S.length := by omega
          obtain ⟨gs, _, _⟩ := goodT_size hg
          obtain ⟨gx, _, _⟩ := goodT_size hg2
          have HS := Lib.hid (splice_ok hg hg2 hw hbig)
          have HR := Lib.hid (spliceT_ok hw hg2 hbig)
          obtain ⟨V, hV⟩ : ∃ V, pack ((bytesOf l).take F ++ bytesOf m ++ (bytesOf l).drop T) = V := ⟨_, rfl⟩
          rw [Int.toNat_natCast, Int.toNat_natCast, hV] at HS HR
          clear hV
          go_enter Tryd.func54, Tryd.ntmps54
          go_wp2_with (first
            | (go_at_call_of 47 l; refine (stpGood_any A c B S l _ (by rw [Q.out.2.1]; omega) (HH.out.below (Q.out.1.mono hB))).mono ?_; rintro e w1 ⟨rfl, hb1⟩; rw [hg]; have z1 : w.heap.size + 3 ≤ w1.heap.size := by {have := hb1.size; rw [Q.out.2.1] at this; exact this}; have b1 := Q.out.1.trans (hb1.mono (by rw [Q.out.2.1]; omega)); have Q1 := Lib.hid (Q.out.2.2.1.below hb1 (by rw [Q.out.2.1]; omega)); have P1 := Lib.hid (Q.out.2.2.2.1.below hb1 (by rw [Q.out.2.1]; omega)); have R1 := Lib.hid (Q.out.2.2.2.2.below hb1 (by rw [Q.out.2.1]; omega)); obtain ⟨y0, y1⟩ := txt_cells Q1.out; obtain ⟨y2, y3⟩ := txt_cells P1.out; obtain ⟨y4, y5, y6, y7⟩ := txt_var R1.out; clear hb1)
            | (go_at_call_of 47 m; refine (stpGood_any A2 d B2 X m w1 (by omega) (HH2.out.below (b1.mono hB2))).mono ?_; rintro e w2 ⟨rfl, hb2⟩; rw [hg2]; have z2 := hb2.size; have b2 := b1.trans (hb2.mono (by omega)); have Q2 := Lib.hid (Q1.out.below hb2 (by omega)); have P2 := Lib.hid (P1.out.below hb2 (by omega)); have R2 := Lib.hid (R1.out.below hb2 (by omega)); clear y0 y1 y2 y3 y4 y5 y6 y7; obtain ⟨y0, y1⟩ := txt_cells Q2.out; obtain ⟨y2, y3⟩ := txt_cells P2.out; obtain ⟨y4, y5, y6, y7⟩ := txt_var R2.out; clear hb2)
            | (go_at_call 80; refine (runSplice_any A A2 c d B B2 l m (F : Int) (T : Int) HH.out.hf HH2.out.hf HH.out.hl HH2.out.hl w2 (by omega) (by omega) (HH.out.row.below (b2.mono hB)) (HH2.out.row.below (b2.mono hB2))).mono ?_; rw [HS.out]; rintro e w3 ⟨A3, c3, rfl, hown3, hb3⟩; have z3 := hb3.size; have b3 := b2.trans (hb3.mono (by omega)); have Q3 := Lib.hid (Q2.out.below hb3 (by omega)); have P3 := Lib.hid (P2.out.below hb3 (by omega)); have R3 := Lib.hid (R2.out.below hb3 (by omega)); clear y0 y1 y2 y3 y4 y5 y6 y7; obtain ⟨y4, y5, y6, y7⟩ := txt_var R3.out; have hown4 := own_base hown3 (base' := w2.heap.size) (Nat.le_refl _); clear hb3 hown3))
          have Q4 : Hid (Blk w3.drew w.heap.size 24 #[.string ⟨S.toArray⟩, .slice A l.length c]) := Q3.out.drewN 1
          have P4 : Hid (Blk w3.drew (w.heap.size + 1) 24 #[.string ⟨X.toArray⟩, .slice A2 m.length d]) := P3.out.drewN 1
          have R4 : Hid (Blk w3.drew (w.heap.size + 1 + 1) 24 #[.string ⟨#[]⟩, .slice none 0 0]) := R3.out.drewN 1
          have K4 : Hid (w3.drew.cell? ⟨w.heap.size, 0, none⟩ = some (.string ⟨S.toArray⟩) ∧ w3.drew.cell? ⟨w.heap.size + 1, 0, none⟩ = some (.string ⟨X.toArray⟩)) := And.intro (txt_cells Q4.out).1 (txt_cells P4.out).1
          have b4 : Hid (Below w.heap.size w w3.drew) := below_drewN b3 1
          have O4 : Hid (w3.drew.ownsRow w2.heap.size 51 2 (.slice A3 V.length c3) V.length (flatR V)) := hown4
          clear hown4 y4 y5 y6 y7
          obtain ⟨y4, y5, y6, y7⟩ := txt_var R4.out
          have x1 : (0 : Int) ≤ (F : Int) := by omega
          have x2 : (F : Int) ≤ (S.length : Int) := by omega
          have x3 : (0 : Int) ≤ (T : Int) := by omega
          have x4 : (T : Int) ≤ (S.length : Int) := by omega
          have x5 : ¬ 9223372036854775807 < min F S.length + X.length := by omega
          have x6 : ¬ 9223372036854775807 < min F S.length + X.length + (S.length - T) := by omega
          refine wp_region_still_tail 14 (by kernel_rfl) (by kernel_rfl) ?_
          simp only [List.take_succ_cons, List.take_zero, List.drop_succ_cons, List.drop_zero]
          change wpStill _ _ (World.drew w3) (fun a' => wpList _ _ _ _ a' (World.drew w3)) _ _
          obtain ⟨z0, z1⟩ := K4.out
          generalize w3.drew = w4 at *
          repeat still_step
          refine wpStill_nil ?_
          go_wp2
          have E := givesT_end (S.take F ++ X ++ S.drop T) (text_splice S X F T) 0 b4.out R4.out (by omega) (by omega) O4.out
          refine ret_text rfl _ _ (w.heap.size + 1 + 1) _ _ rfl E.1 rfl ?_
          rw [HR.out]
          exact E.2
        · have HS := Lib.hid (splice_big hg hg2 hw hbig)
          have HR := Lib.hid (spliceT_big hw hg2 hbig)
          clear hw hbig
          go_enter Tryd.func54, Tryd.ntmps54
          go_wp2_with (first
            | (go_at_call_of 47 l; refine (stpGood_any A c B S l _ (by rw [Q.out.2.1]; omega) (HH.out.below (Q.out.1.mono hB))).mono ?_; rintro e w1 ⟨rfl, hb1⟩; rw [hg]; have z1 : w.heap.size + 3 ≤ w1.heap.size := by {have := hb1.size; rw [Q.out.2.1] at this; exact this}; have b1 := Q.out.1.trans (hb1.mono (by rw [Q.out.2.1]; omega)); have Q1 := Lib.hid (Q.out.2.2.1.below hb1 (by rw [Q.out.2.1]; omega)); have P1 := Lib.hid (Q.out.2.2.2.1.below hb1 (by rw [Q.out.2.1]; omega)); have R1 := Lib.hid (Q.out.2.2.2.2.below hb1 (by rw [Q.out.2.1]; omega)); obtain ⟨y0, y1⟩ := txt_cells Q1.out; obtain ⟨y2, y3⟩ := txt_cells P1.out; obtain ⟨y4, y5, y6, y7⟩ := txt_var R1.out; clear hb1)
            | (go_at_call_of 47 m; refine (stpGood_any A2 d B2 X m w1 (by omega) (HH2.out.below (b1.mono hB2))).mono ?_; rintro e w2 ⟨rfl, hb2⟩; rw [hg2]; have z2 := hb2.size; have b2 := b1.trans (hb2.mono (by omega)); have Q2 := Lib.hid (Q1.out.below hb2 (by omega)); have P2 := Lib.hid (P1.out.below hb2 (by omega)); have R2 := Lib.hid (R1.out.below hb2 (by omega)); clear y0 y1 y2 y3 y4 y5 y6 y7; obtain ⟨y0, y1⟩ := txt_cells Q2.out; obtain ⟨y2, y3⟩ := txt_cells P2.out; obtain ⟨y4, y5, y6, y7⟩ := txt_var R2.out; clear hb2)
            | (go_at_call 80; refine (runSplice_any A A2 c d B B2 l m f t HH.out.hf HH2.out.hf HH.out.hl HH2.out.hl w2 (by omega) (by omega) (HH.out.row.below (b2.mono hB)) (HH2.out.row.below (b2.mono hB2))).mono ?_; rw [HS.out]; rintro e w3 ⟨A3, c3, rfl, hown3, hb3⟩; have z3 := hb3.size; have b3 := b2.trans (hb3.mono (by omega)); have Q3 := Lib.hid (Q2.out.below hb3 (by omega)); have P3 := Lib.hid (P2.out.below hb3 (by omega)); have R3 := Lib.hid (R2.out.below hb3 (by omega)); clear y0 y1 y2 y3 y4 y5 y6 y7; obtain ⟨y4, y5, y6, y7⟩ := txt_var R3.out; have hown4 := own_base hown3 (base' := w2.heap.size) (Nat.le_refl _); clear hb3 hown3))
          have E := givesT_end (l := []) [] rfl 3 b3 R3.out (by omega) (Nat.lt_succ_self _) (World.ownsRow_nil _ _ _ _)
          refine ret_text rfl _ _ (w.heap.size + 1 + 1) _ _ rfl E.1 rfl ?_
          rw [HR.out]
          exact E.2
      · have HS := Lib.hid (splice_out hg hw (m := m))
        have HR := Lib.hid (spliceT_bad (S := S) (X := X) (l := l) (m := m) (f := f) (t := t) (fun h => hw h.1))
        clear hw
        go_enter Tryd.func54, Tryd.ntmps54
        go_wp2_with (first
          | (go_at_call_of 47 l; refine (stpGood_any A c B S l _ (by rw [Q.out.2.1]; omega) (HH.out.below (Q.out.1.mono hB))).mono ?_; rintro e w1 ⟨rfl, hb1⟩; rw [hg]; have z1 : w.heap.size + 3 ≤ w1.heap.size := by {have := hb1.size; rw [Q.out.2.1] at this; exact this}; have b1 := Q.out.1.trans (hb1.mono (by rw [Q.out.2.1]; omega)); have Q1 := Lib.hid (Q.out.2.2.1.below hb1 (by rw [Q.out.2.1]; omega)); have P1 := Lib.hid (Q.out.2.2.2.1.below hb1 (by rw [Q.out.2.1]; omega)); have R1 := Lib.hid (Q.out.2.2.2.2.below hb1 (by rw [Q.out.2.1]; omega)); obtain ⟨y0, y1⟩ := txt_cells Q1.out; obtain ⟨y2, y3⟩ := txt_cells P1.out; obtain ⟨y4, y5, y6, y7⟩ := txt_var R1.out; clear hb1)
          | (go_at_call_of 47 m; refine (stpGood_any A2 d B2 X m w1 (by omega) (HH2.out.below (b1.mono hB2))).mono ?_; rintro e w2 ⟨rfl, hb2⟩; rw [hg2]; have z2 := hb2.size; have b2 := b1.trans (hb2.mono (by omega)); have Q2 := Lib.hid (Q1.out.below hb2 (by omega)); have P2 := Lib.hid (P1.out.below hb2 (by omega)); have R2 := Lib.hid (R1.out.below hb2 (by omega)); clear y0 y1 y2 y3 y4 y5 y6 y7; obtain ⟨y0, y1⟩ := txt_cells Q2.out; obtain ⟨y2, y3⟩ := txt_cells P2.out; obtain ⟨y4, y5, y6, y7⟩ := txt_var R2.out; clear hb2)
          | (go_at_call 80; refine (runSplice_any A A2 c d B B2 l m f t HH.out.hf HH2.out.hf HH.out.hl HH2.out.hl w2 (by omega) (by omega) (HH.out.row.below (b2.mono hB)) (HH2.out.row.below (b2.mono hB2))).mono ?_; rw [HS.out]; rintro e w3 ⟨A3, c3, rfl, hown3, hb3⟩; have z3 := hb3.size; have b3 := b2.trans (hb3.mono (by omega)); have Q3 := Lib.hid (Q2.out.below hb3 (by omega)); have P3 := Lib.hid (P2.out.below hb3 (by omega)); have R3 := Lib.hid (R2.out.below hb3 (by omega)); clear y0 y1 y2 y3 y4 y5 y6 y7; obtain ⟨y4, y5, y6, y7⟩ := txt_var R3.out; have hown4 := own_base hown3 (base' := w2.heap.size) (Nat.le_refl _); clear hb3 hown3))
        have E := givesT_end (l := []) [] rfl 2 b3 R3.out (by omega) (Nat.lt_succ_self _) (World.ownsRow_nil _ _ _ _)
        refine ret_text rfl _ _ (w.heap.size + 1 + 1) _ _ rfl E.1 rfl ?_
        rw [HR.out]
        exact E.2
    · have HR := Lib.hid (spliceT_bad (S := S) (X := X) (l := l) (m := m) (f := f) (t := t) (fun h => hg2 h.2))
      have hg2' : goodT X m = false := by simpa using hg2
      clear hg2
      go_enter Tryd.func54, Tryd.ntmps54
      go_wp2_with (first
        | (go_at_call_of 47 l; refine (stpGood_any A c B S l _ (by rw [Q.out.2.1]; omega) (HH.out.below (Q.out.1.mono hB))).mono ?_; rintro e w1 ⟨rfl, hb1⟩; rw [hg]; have z1 : w.heap.size + 3 ≤ w1.heap.size := by {have := hb1.size; rw [Q.out.2.1] at this; exact this}; have b1 := Q.out.1.trans (hb1.mono (by rw [Q.out.2.1]; omega)); have Q1 := Lib.hid (Q.out.2.2.1.below hb1 (by rw [Q.out.2.1]; omega)); have P1 := Lib.hid (Q.out.2.2.2.1.below hb1 (by rw [Q.out.2.1]; omega)); have R1 := Lib.hid (Q.out.2.2.2.2.below hb1 (by rw [Q.out.2.1]; omega)); obtain ⟨y0, y1⟩ := txt_cells Q1.out; obtain ⟨y2, y3⟩ := txt_cells P1.out; obtain ⟨y4, y5, y6, y7⟩ := txt_var R1.out; clear hb1)
        | (go_at_call_of 47 m; refine (stpGood_any A2 d B2 X m w1 (by omega) (HH2.out.below (b1.mono hB2))).mono ?_; rintro e w2 ⟨rfl, hb2⟩; rw [hg2']; have z2 := hb2.size; have b2 := b1.trans (hb2.mono (by omega)); have Q2 := Lib.hid (Q1.out.below hb2 (by omega)); have P2 := Lib.hid (P1.out.below hb2 (by omega)); have R2 := Lib.hid (R1.out.below hb2 (by omega)); clear y0 y1 y2 y3 y4 y5 y6 y7; obtain ⟨y0, y1⟩ := txt_cells Q2.out; obtain ⟨y2, y3⟩ := txt_cells P2.out; obtain ⟨y4, y5, y6, y7⟩ := txt_var R2.out; clear hb2))
      have E := givesT_end (l := []) [] rfl 2 b2 R2.out (by omega) (Nat.lt_succ_self _) (World.ownsRow_nil _ _ _ _)
      refine ret_text rfl _ _ (w.heap.size + 1 + 1) _ _ rfl E.1 rfl ?_
      rw [HR.out]
      exact E.2
  · have HR := Lib.hid (spliceT_bad (S := S) (X := X) (l := l) (m := m) (f := f) (t := t) (fun h => hg (withinT_of h.1).1))
    have hg' : goodT S l = false := by simpa using hg
    clear hg
    go_enter Tryd.func54, Tryd.ntmps54
    go_wp2_with (first
      | (go_at_call_of 47 l; refine (stpGood_any A c B S l _ (by rw [Q.out.2.1]; omega) (HH.out.below (Q.out.1.mono hB))).mono ?_; rintro e w1 ⟨rfl, hb1⟩; rw [hg']; have z1 : w.heap.size + 3 ≤ w1.heap.size := by {have := hb1.size; rw [Q.out.2.1] at this; exact this}; have b1 := Q.out.1.trans (hb1.mono (by rw [Q.out.2.1]; omega)); have Q1 := Lib.hid (Q.out.2.2.1.below hb1 (by rw [Q.out.2.1]; omega)); have P1 := Lib.hid (Q.out.2.2.2.1.below hb1 (by rw [Q.out.2.1]; omega)); have R1 := Lib.hid (Q.out.2.2.2.2.below hb1 (by rw [Q.out.2.1]; omega)); obtain ⟨y0, y1⟩ := txt_cells Q1.out; obtain ⟨y2, y3⟩ := txt_cells P1.out; obtain ⟨y4, y5, y6, y7⟩ := txt_var R1.out; clear hb1))
    have E := givesT_end (l := []) [] rfl 2 b1 R1.out (by omega) (Nat.lt_succ_self _) (World.ownsRow_nil _ _ _ _)
    refine ret_text rfl _ _ (w.heap.size + 1 + 1) _ _ rfl E.1 rfl ?_
    rw [HR.out]
    exact E.2

end Go.Proofs.YtgmeamefbfgbgaaDoor

/-
  A text's bytes in a row of their own, some of them hidden: layer 4.
-/
namespace Go.Proofs.YtgmeamefbfgbgaaDoor
set_option maxRecDepth 100000
open Go.RowKit

/-- a row that []byte(s) made: its bytes -/
def SeenRow (w : World) (g n c : Nat) (xs : List UInt8) : Prop :=
  ∃ cur : Array Value, w.heap[g]? = some (.cells cur 5 (cur.size, cur.size + 1)) ∧ xs.length = n ∧ n ≤ c ∧ cur.size = c ∧ cur.toList.take n = xs.map byt
section
variable {w w' : World} {g n c : Nat} {xs : List UInt8}
theorem SeenRow.below {B : Nat} (h : SeenRow w g n c xs) (hb : Below B w w') (hg : g < B) : SeenRow w' g n c xs := by
  obtain ⟨cur, h1, h⟩ := h
  exact ⟨cur, (hb.block g hg).trans h1, h⟩
theorem SeenRow.lt (h : SeenRow w g n c xs) : g < w.heap.size := by
  obtain ⟨cur, h1, _⟩ := h
  exact (Array.getElem?_eq_some_iff.1 h1).1
theorem SeenRow.alloc (h : SeenRow w g n c xs) (o : Obj) : SeenRow (w.alloc o) g n c xs := h.below ((Below.refl _ w).alloc (Nat.le_refl _) o) h.lt
theorem SeenRow.frozen (h : SeenRow w g n c xs) {j : Nat} (hj : j < n) : w.frozen? ⟨g, j, none⟩ = false := by
  obtain ⟨cur, h1, h2, h3, h4, h5⟩ := h
  simp [World.frozen?, h1]
  omega
theorem SeenRow.cell (h : SeenRow w g n c xs) {j : Nat} (hj : j < xs.length) : w.cell? ⟨g, j, none⟩ = some (byt xs[j]) := by
  obtain ⟨cur, h1, h2, h3, h4, h5⟩ := h
  rw [cell_of_row w g j cur _ _ h1]
  have : (cur.toList.take n)[j]? = some (byt xs[j]) := by rw [h5]; simp [hj]
  rw [List.getElem?_take_of_lt (by omega)] at this
  simpa using this
theorem SeenRow.set (h : SeenRow w g n c xs) (j : Nat) (b : UInt8) : SeenRow (w.setCell ⟨g, j, none⟩ (byt b)) g n c (xs.set j b) := by
  obtain ⟨cur, h1, h2, h3, h4, h5⟩ := h
  refine ⟨cur.setIfInBounds j (byt b), ?_, by simp [h2], h3, by simp [h4], ?_⟩
  · simp [World.setCell, Array.getElem?_modify, h1]
  · rw [Array.toList_setIfInBounds, List.map_set, ← h5, List.take_set]
theorem SeenRow.row (h : SeenRow w g n c xs) : Row w (g + 1) (some ⟨g, 0, none⟩) (xs.map byt) := by
  right
  refine ⟨_, rfl, by simp, fun j u hj => ?_⟩
  rw [base_add]
  rw [List.getElem?_map] at hj
  obtain ⟨x, hx, rfl⟩ := Option.map_eq_some_iff.1 hj
  obtain ⟨hl, rfl⟩ := List.getElem?_eq_some_iff.1 hx
  exact h.cell hl
end
/-- []byte(s) -/
theorem seen_new (S : List UInt8) (w : World) : ∃ c w', (convert 9 85 (.string ⟨S.toArray⟩)).run Tryd.prog w = .ok (.slice (some ⟨w.heap.size, 0, none⟩) S.length c) w' ∧ SeenRow w' w.heap.size S.length c S ∧ Below w.heap.size w w' := by
  have h := run_bytes_of_string w 9 85 5 ⟨S.toArray⟩ Tryd.underlying9 Tryd.underlying85 Tryd.underlying5
  have hs : (⟨S.toArray⟩ : ByteArray).size = S.length := by simp [ByteArray.size]
  rw [hs] at h
  have hge := grownCap_ge w S.length 0 5
  generalize grownCap w S.length 0 5 = c at *
  refine ⟨c, _, h, ⟨bytesRow ⟨S.toArray⟩ c, ?_, rfl, hge, ?_, ?_⟩, ?_⟩
  · show (w.drew.heap.push _)[w.heap.size]? = _
    exact Array.getElem?_push_size
  · simp [bytesRow, ByteArray.size]; omega
  · simp [bytesRow]
    intro b _
    rfl
  · exact ((Below.refl _ w).drew).alloc (Nat.le_refl _) _

/-- the places from F to T are hidden -/
def hideTo (xs : List UInt8) (F T : Nat) : List UInt8 := xs.take F ++ List.replicate (T - F) 35 ++ xs.drop T
theorem hideTo_start (xs : List UInt8) (F : Nat) : hideTo xs F F = xs := by unfold hideTo; simp
theorem hideTo_len {xs : List UInt8} {F T : Nat} (h : F ≤ T) (hT : T ≤ xs.length) : (hideTo xs F T).length = xs.length := by unfold hideTo; simp; omega
theorem hideTo_get {xs : List UInt8} {F T j : Nat} (h : F ≤ T) (hT : T ≤ xs.length) (hj : j < xs.length) : (hideTo xs F T)[j]'(by rw [hideTo_len h hT]; exact hj) = if F ≤ j ∧ j < T then 35 else xs[j] := by
  have e : (hideTo xs F T)[j]? = some (if F ≤ j ∧ j < T then 35 else xs[j]) := by
    unfold hideTo
    by_cases h1 : j < F
    · rw [if_neg (by omega), List.append_assoc, List.getElem?_append_left (by simp; omega), List.getElem?_take_of_lt h1, List.getElem?_eq_getElem hj]
    · by_cases h2 : j < T
      · rw [if_pos (by omega), List.getElem?_append_left (by simp; omega), List.getElem?_append_right (by simp; omega), List.getElem?_replicate_of_lt (by simp; omega)]
      · rw [if_neg (by omega), List.getElem?_append_right (by simp; omega), List.getElem?_drop]
        have : T + (j - (xs.take F ++ List.replicate (T - F) (35 : UInt8)).length) = j := by simp; omega
        rw [this, List.getElem?_eq_getElem hj]
  rw [List.getElem?_eq_getElem (by rw [hideTo_len h hT]; exact hj)] at e
  injection e
theorem hideTo_step {xs : List UInt8} {F k : Nat} (h : F ≤ k) (hk : k < xs.length) : (hideTo xs F k).set k 35 = hideTo xs F (k + 1) := by
  apply List.ext_getElem
  · rw [List.length_set, hideTo_len h (by omega), hideTo_len (by omega) (by omega)]
  · intro j h1 h2
    rw [hideTo_len (by omega) (by omega)] at h2
    rw [List.getElem_set, hideTo_get (show F ≤ k + 1 by omega) (by omega) h2, hideTo_get h (by omega) h2]
    by_cases hj : k = j
    · subst hj; rw [if_pos rfl, if_pos (by omega)]
    · rw [if_neg hj]
      by_cases hc : F ≤ j ∧ j < k
      · rw [if_pos hc, if_pos (by omega)]
      · rw [if_neg hc, if_neg (by omega)]

set_option maxHeartbeats 1000000 in
theorem stpHide_any (g n c F T d N : Nat) (hN : T - F = N) (xs : List UInt8) (ad : Addr) (hFT : F ≤ T) (hT : T ≤ n) (hn : n ≤ 4096) (had : F < T → ad = ⟨g, F, none⟩) (w : World) (h : SeenRow w g n c xs) :
    Calls Tryd.prog 49 #[.slice (some ad) N d] w fun e w' => e = .returned (.tuple #[]) ∧ SeenRow w' g n c (hideTo xs F T) ∧ Below g w w' := by
  have hlen : xs.length = n := by obtain ⟨cur, _, h2, _⟩ := h; exact h2
  have HL := Lib.hid hlen
  clear hlen
  have HN := Lib.hid hN
  clear hN
  go_enter Tryd.func49, Tryd.ntmps49
  go_wp2
  go_loopw [5] (fun i wr => ∃ k : Nat, k ≤ N ∧ i = .int .i64 k ∧ SeenRow wr g n c (hideTo xs F (F + k)) ∧ Below g w wr) (fun i _ => N - (intOf i).toNat)
  case atStart => exact ⟨0, Nat.zero_le _, rfl, by rw [Nat.add_zero, hideTo_start]; exact h, Below.refl _ _⟩
  case round =>
    obtain ⟨k, hk, rfl, hs, hb⟩ := hrel
    by_cases hlt : k < N
    · have hFk : F + k < n := by have := HN.out; omega
      have HST := Lib.hid (hideTo_step (xs := xs) (F := F) (k := F + k) (by omega) (by rw [HL.out]; exact hFk))
      have hadk : ad.add k = ⟨g, F + k, none⟩ := by
        rw [had (by have := HN.out; omega)]
        unfold Addr.add
        by_cases h0 : k = 0
        · subst h0; rfl
        · rw [if_neg h0]
      have fz := hs.frozen hFk
      obtain ⟨v, cl⟩ : ∃ v, wr.cell? ⟨g, F + k, none⟩ = some v := ⟨_, hs.cell (j := F + k) (by rw [hideTo_len (by omega) (by rw [HL.out]; omega), HL.out]; exact hFk)⟩
      have HS2 : Hid (SeenRow (wr.setCell ⟨g, F + k, none⟩ (.int .u8 35)) g n c (hideTo xs F (F + k + 1))) := by
        have := hs.set (F + k) 35
        rw [HST.out] at this
        exact this
      rw [← hadk] at fz cl HS2
      have HB2 : Hid (g ≤ (ad.add k).block) := by show _ ≤ _; rw [hadk]; exact Nat.le_refl _
      clear hadk had
      go_wp2
      go_roundw
      case rel => exact ⟨k + 1, by omega, by go_num, HS2.out, hb.setCell HB2.out _⟩
      case measure => simp [intOf]; omega
    · obtain rfl : k = N := by omega
      have : F + k = T := by have := HN.out; omega
      rw [this] at hs
      go_wp2
      go_end0
      exact ⟨rfl, hs, hb⟩
end Go.Proofs.YtgmeamefbfgbgaaDoor

/-
  The landed View: layer 4.
-/
namespace Go.Proofs.YtgmeamefbfgbgaaDoor
set_option maxRecDepth 100000
open Go.RowKit

/-- what is seen of the first k bytes, and the others as they are -/
def partTo (S : List UInt8) (bs : List Nat) (y k : Nat) : List UInt8 := (viewTo S bs y).take k ++ S.drop k
theorem partTo_start (S : List UInt8) (bs : List Nat) (y : Nat) : partTo S bs y 0 = S := by unfold partTo; simp
theorem partTo_len {S : List UInt8} {bs : List Nat} {y k : Nat} (h : bs.length = S.length) (hk : k ≤ S.length) : (partTo S bs y k).length = S.length := by
  unfold partTo; rw [List.length_append, List.length_take, viewTo_len h, List.length_drop]; omega
theorem partTo_get {S : List UInt8} {bs : List Nat} {y k j : Nat} (h : bs.length = S.length) (hk : k ≤ S.length) (hj : j < S.length) :
    (partTo S bs y k)[j]'(by rw [partTo_len h hk]; exact hj) = if j < k then (if subB (bs[j]'(by omega)) y = true then S[j] else 35) else S[j] := by
  have e : (partTo S bs y k)[j]? = some (if j < k then (if subB (bs[j]'(by omega)) y = true then S[j] else 35) else S[j]) := by
    unfold partTo
    by_cases h1 : j < k
    · rw [if_pos h1, List.getElem?_append_left (by rw [List.length_take, viewTo_len h]; omega), List.getElem?_take_of_lt h1, List.getElem?_eq_getElem (by rw [viewTo_len h]; exact hj), viewTo_get h hj]
    · rw [if_neg h1, List.getElem?_append_right (by rw [List.length_take, viewTo_len h]; omega), List.getElem?_drop, List.length_take, viewTo_len h]
      have : k + (j - min k S.length) = j := by omega
      rw [this, List.getElem?_eq_getElem hj]
  rw [List.getElem?_eq_getElem (by rw [partTo_len h hk]; exact hj)] at e
  injection e
theorem partTo_all {S : List UInt8} {bs : List Nat} {y : Nat} (h : bs.length = S.length) : partTo S bs y S.length = viewTo S bs y := by
  unfold partTo
  rw [List.drop_length, List.append_nil, List.take_of_length_le (by rw [viewTo_len h]; omega)]
/-- a run that is seen -/
theorem partTo_seen {S : List UInt8} {bs : List Nat} {y a b x : Nat} (h : bs.length = S.length) (hab : a ≤ b) (hb : b ≤ S.length) (hx : ∀ j, a ≤ j → j < b → bs[j]? = some x) (hs : subB x y = true) : partTo S bs y a = partTo S bs y b := by
  apply List.ext_getElem
  · rw [partTo_len h (by omega), partTo_len h hb]
  · intro j h1 h2
    rw [partTo_len h hb] at h2
    rw [partTo_get h (by omega) h2, partTo_get h hb h2]
    by_cases ha : j < a
    · rw [if_pos ha, if_pos (show j < b by omega)]
    · rw [if_neg ha]
      by_cases hjb : j < b
      · have := hx j (by omega) hjb
        rw [List.getElem?_eq_getElem (by omega)] at this
        injection this with this
        rw [if_pos hjb, this, if_pos hs]
      · rw [if_neg hjb]
/-- a run that is hidden -/
theorem partTo_hide {S : List UInt8} {bs : List Nat} {y a b x : Nat} (h : bs.length = S.length) (hab : a ≤ b) (hb : b ≤ S.length) (hx : ∀ j, a ≤ j → j < b → bs[j]? = some x) (hs : ¬ subB x y = true) : hideTo (partTo S bs y a) a b = partTo S bs y b := by
  have hl := partTo_len (y := y) h (show a ≤ S.length by omega)
  apply List.ext_getElem
  · rw [hideTo_len hab (by rw [hl]; exact hb), hl, partTo_len h hb]
  · intro j h1 h2
    rw [partTo_len h hb] at h2
    rw [hideTo_get hab (by rw [hl]; exact hb) (by rw [hl]; exact h2), partTo_get h (by omega) h2, partTo_get h hb h2]
    by_cases ha : j < a
    · rw [if_neg (show ¬ (a ≤ j ∧ j < b) by omega), if_pos ha, if_pos (show j < b by omega)]
    · by_cases hjb : j < b
      · have := hx j (by omega) hjb
        rw [List.getElem?_eq_getElem (by omega)] at this
        injection this with this
        rw [if_pos ⟨by omega, hjb⟩, if_pos hjb, this, if_neg hs]
      · rw [if_neg (show ¬ (a ≤ j ∧ j < b) by omega), if_neg ha, if_neg hjb]
theorem bytesOf_at? {l : List RunP} {k p : Nat} (hk : k < l.length) (h0 : sumN (l.take k) ≤ p) (h1 : p < sumN (l.take (k + 1))) : (bytesOf l)[p]? = some l[k].1 := by
  have h2 := bytesOf_at hk h0 h1
  have h3 : p < (bytesOf l).length := by
    rw [bytesOf_len]
    have := sumN_cut l (k + 1)
    omega
  rw [List.getD_eq_getElem?_getD, List.getElem?_eq_getElem h3] at h2
  rw [List.getElem?_eq_getElem h3]
  simpa using h2

set_option maxHeartbeats 1000000 in
theorem stpView_any (A : Option Addr) (c B : Nat) (S : List UInt8) (l : List RunP) (y : Nat) (hy : y < 18446744073709551616) (w : World) (hB : B ≤ w.heap.size) (h : Txt w B A S l) :
    Calls Tryd.prog 21 #[.agg #[.string ⟨S.toArray⟩, .slice A l.length c], .int .u64 y] w fun e w' => e = .returned (.tuple #[.string ⟨(viewOf S l y).1.toArray⟩, .int .i64 ((viewOf S l y).2 : Nat)]) ∧ Below w.heap.size w w' := by
  have HH := Lib.hid h
  clear h
  have Q := Lib.hid (Blk.new w 24 #[.string ⟨S.toArray⟩, .slice A l.length c])
  have SX : Hid ((w.alloc (.cells #[.string ⟨S.toArray⟩, .slice A l.length c] 24)).heap.size = w.heap.size + 1) := by show _ = _; simp
  have B0 : Hid (Below w.heap.size w (w.alloc (.cells #[.string ⟨S.toArray⟩, .slice A l.length c] 24))) := (Below.refl _ w).alloc (Nat.le_refl _) _
  by_cases hg : goodT S l = true
  · obtain ⟨h1, h2, h3⟩ := goodT_size hg
    have HR : Hid (viewOf S l y = (viewTo S (bytesOf l) y, 0)) := if_pos hg
    have H3 := Lib.hid h3
    have HN := Lib.hid ((neat_idx l).1 ((goodB_iff l).1 ((goodT_iff S l).1 hg).1).2)
    have HT : Hid (sumN l = S.length) := by have := bytesOf_len l; show _ = _; omega
    have hl0 := HH.out.hl
    unfold maxLen at hl0
    clear h3 h2
    go_enter Tryd.func21, Tryd.ntmps21
    go_upto_region 3 with (go_at_call 47; refine (stpGood_any A c B S l _ (by rw [SX.out]; omega) (HH.out.below (B0.out.mono hB))).mono ?_; rintro e w1 ⟨rfl, hb1⟩; rw [hg]; have z1 : w.heap.size + 1 ≤ w1.heap.size := by {have := hb1.size; rw [SX.out] at this; exact this}; have b1 := B0.out.trans (hb1.mono (by rw [SX.out]; omega)); have Q1 := Lib.hid (Q.out.below hb1 (by rw [SX.out]; omega)); obtain ⟨y0, y1⟩ := txt_cells Q1.out; clear hb1)
    obtain ⟨cs, w2, hcv, hs2, hb2⟩ := seen_new S w1
    have Q2 := Lib.hid (Q1.out.below hb2 (by omega))
    have z2 := hb2.size
    have HG := Lib.hid hs2.lt
    have b2 := b1.trans (hb2.mono (by omega))
    have hx : w2.cell? ⟨w.heap.size, 1, none⟩ = some (.slice A l.length c) := (txt_cells Q2.out).2
    clear Q Q1
    have hcs : S.length ≤ cs := by obtain ⟨cur, _, _, h, _⟩ := hs2; exact h
    go_wp2
    have HV := Lib.hid (partTo_all (y := y) H3.out)
    have HAT := Lib.hid (fun k (hk : k < l.length) p h0 h1 => bytesOf_at? (l := l) (k := k) (p := p) hk h0 h1)
    have HP0 := Lib.hid (partTo_start S (bytesOf l) y)
    generalize bytesOf l = bs at *
    generalize hg0 : w1.heap.size = g at *
    have HG0 := Lib.hid hg0
    clear hg0
    go_loopw [7, 20] (fun st i wr => ∃ k : Nat, k ≤ l.length ∧ i = .int .i64 k ∧ st = .int .i64 (sumN (l.take k) : Nat) ∧ SeenRow wr g S.length cs (partTo S bs y (sumN (l.take k))) ∧ Below g w1 wr) (fun _ i _ => l.length - (intOf i).toNat)
    case atStart => exact ⟨0, Nat.zero_le _, rfl, rfl, by rw [show sumN (l.take 0) = 0 from rfl, HP0.out]; exact hs2, hb2⟩
    case round =>
      clear hs2 hb2
      obtain ⟨k, hk, rfl, rfl, hs, hb⟩ := hrel
      have z : g ≤ wr.heap.size := by rw [← HG0.out]; exact hb.size
      by_cases hlt : k < l.length
      · have row := HH.out.row.below (b1.trans (hb.mono (by omega)) |>.mono hB)
        obtain ⟨ad, rfl, hbl, c0, c1⟩ := run_cells row hlt
        have hne := (HN.out k hlt).1
        have hfx := HH.out.hf l[k] (List.getElem_mem hlt)
        have hsum := sumN_succ l k hlt
        have hcut := sumN_cut l (k + 1)
        rw [HT.out] at hcut
        have HA := Lib.hid (HAT.out k hlt)
        obtain ⟨⟨x, i⟩, hr⟩ : ∃ r, l[k] = r := ⟨_, rfl⟩
        rw [hr] at c0 c1 hne hfx hsum HA
        clear hr
        dsimp only at c0 c1 hne hfx hsum HA
        obtain ⟨N, rfl⟩ : ∃ N : Nat, i = (N : Int) := ⟨i.toNat, by omega⟩
        rw [Int.toNat_natCast] at hsum
        have HSU := Lib.hid hsum
        rw [hsum] at HA
        generalize sumN (l.take k) = F at *
        have hT : F + N ≤ S.length := by omega
        clear hcut hsum row
        by_cases hs' : subB x y = true
        · have HX := Lib.hid (partTo_seen (y := y) H3.out (show F ≤ F + N by omega) hT HA.out hs')
          go_wp2_with (go_at_call 48; refine (below_any x y hfx.1 hy _).mono ?_; rintro e w3 ⟨rfl, rfl⟩; rw [hs'])
          go_roundw
          case rel => exact ⟨k + 1, by omega, by go_num, by rw [HSU.out]; go_num, by rw [HSU.out, ← HX.out]; exact hs.alloc _, hb.alloc z _⟩
          case measure => simp [intOf]; omega
        · have hs2' : subB x y = false := by simpa using hs'
          have HX := Lib.hid (partTo_hide (y := y) H3.out (show F ≤ F + N by omega) hT HA.out hs')
          have x1 : (0 : Int) ≤ (F : Int) := by omega
          have x2 : (F : Int) ≤ (F : Int) + (N : Int) := by omega
          have x3 : (F : Int) + (N : Int) ≤ (cs : Int) := by omega
          have x4 : ¬ cs = F := by omega
          have HAD : Hid ((⟨g, 0, none⟩ : Addr).add F = ⟨g, F, none⟩) := base_add g F
          generalize hge : (⟨g, 0, none⟩ : Addr) = ad0 at *
          clear hge
          go_wp2_with (first
            | (go_at_call 48; refine (below_any x y hfx.1 hy _).mono ?_; rintro e w3 ⟨rfl, rfl⟩; rw [hs2'])
            | (go_at_call 49; refine (stpHide_any g S.length cs F (F + N) (cs - F) N (by omega) (partTo S bs y F) (ad0.add F) (by omega) hT h1 (fun _ => HAD.out) _ (hs.alloc _)).mono ?_; rintro e w4 ⟨rfl, hs4, hb4⟩))
          go_roundw
          case rel => exact ⟨k + 1, by omega, by go_num, by rw [HSU.out]; go_num, by rw [HSU.out, ← HX.out]; exact hs4, (hb.alloc z _).trans hb4⟩
          case measure => simp [intOf]; omega
      · obtain rfl : k = l.length := by omega
        rw [List.take_length, HT.out, HV.out] at hs
        have HL := Lib.hid (viewTo_len (y := y) H3.out)
        have hcv2 := str_of_row (P := Tryd.prog) (c := cs) (l := viewTo S bs y) 85 9 5 Tryd.underlying85 Tryd.underlying5 Tryd.underlying9 hs.row
        rw [HL.out] at hcv2
        go_wp2
        go_ret2
        rw [HR.out]
        exact ⟨rfl, b1.trans (hb.mono (by omega))⟩
  · have HR : Hid (viewOf S l y = ([], 2)) := if_neg hg
    have hg' : goodT S l = false := by simpa using hg
    clear hg
    go_enter Tryd.func21, Tryd.ntmps21
    go_wp2_with (go_at_call 47; refine (stpGood_any A c B S l _ (by rw [SX.out]; omega) (HH.out.below (B0.out.mono hB))).mono ?_; rintro e w1 ⟨rfl, hb1⟩; rw [hg'])
    go_ret2
    rw [HR.out]
    exact ⟨rfl, B0.out.trans (hb1.mono (by rw [SX.out]; omega))⟩
end Go.Proofs.YtgmeamefbfgbgaaDoor

/-
  The landed Low, and what package strip says: layer 4.
-/
namespace Go.Proofs.YtgmeamefbfgbgaaDoor
set_option maxRecDepth 100000
open Go.RowKit

end Go.Proofs.YtgmeamefbfgbgaaDoor

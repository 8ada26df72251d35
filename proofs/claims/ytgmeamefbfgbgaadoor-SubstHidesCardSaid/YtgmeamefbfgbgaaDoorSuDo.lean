/-
  Contracts of the document's own answers, layer 15: Do.
-/
import Derived.Test.YtgmeamefbfgbgaaDoorSuPlas
import Derived.Test.YtgmeamefbfgbgaaDoorSuPut
import Derived.Test.YtgmeamefbfgbgaaDoorSuSwap
import Derived.Test.YtgmeamefbfgbgaaDoorSuSays
import Derived.Test.YtgmeamefbfgbgaaDoorM07e
namespace Go.Proofs.YtgmeamefbfgbgaaDoor
open Go.RowKit
set_option maxRecDepth 100000

theorem givesSu_zero {w w' : World} {n : Nat} (hb : Below w.heap.size w w') : GivesSu w ((⟨0, [], [], [], []⟩, 0), n) (.returned (.tuple #[.agg #[.int .i64 0, .string ⟨#[]⟩, .slice none 0 0, .string ⟨#[]⟩, .slice none 0 0], .int .i64 0, .int .i64 (n : Nat)])) w' := ⟨none, 0, none, 0, rfl, .inl rfl, .inl rfl, hb⟩
theorem bool_two (e : Nat) (h : e ≠ 0) : ((e : Int) != 0) = true := by rw [bne_iff_ne]; omega
theorem mul_near {p m r : Nat} (hp : p ≤ 5000) (hm : m ≤ 5000) (hr : r ≤ 5000) : -25000000 ≤ (p : Int) * ((r : Int) - (m : Int)) ∧ (p : Int) * ((r : Int) - (m : Int)) ≤ 25000000 := by
  rw [Int.mul_sub]
  have h1 : p * r ≤ 5000 * 5000 := Nat.mul_le_mul hp hr
  have h2 : p * m ≤ 5000 * 5000 := Nat.mul_le_mul hp hm
  rw [← Int.natCast_mul, ← Int.natCast_mul]
  omega
theorem between_le {n k a m r : Nat} {x : Nat} (hk : k ≤ n) (h : x + k * m = a + k * r) (ha : a ≤ 4096) (hf : (a : Int) + (n : Int) * ((r : Int) - (m : Int)) ≤ 4096) : x ≤ 4096 := by
  by_cases hrm : r ≤ m
  · have : k * r ≤ k * m := Nat.mul_le_mul_left _ hrm
    omega
  · have h1 : (k : Int) * ((r : Int) - (m : Int)) ≤ (n : Int) * ((r : Int) - (m : Int)) := Int.mul_le_mul_of_nonneg_right (by omega) (by omega)
    rw [Int.mul_sub (k : Int), ← Int.natCast_mul, ← Int.natCast_mul] at h1
    generalize (n : Int) * ((r : Int) - (m : Int)) = z at *
    generalize k * m = u at *
    generalize k * r = v at *
    omega
theorem Apart.drop {m : Nat} : ∀ {P : List Nat} {f t : Nat} (k : Nat), Apart m f t P → Apart m f t (P.drop k)
  | [], _, _, k, h => by rw [List.drop_nil]; exact h
  | p :: P, f, t, 0, h => h
  | p :: P, f, t, k + 1, h => by
    rw [List.drop_succ_cons]
    have h1 := h.1
    exact (Apart.drop k h.2).front (by omega)
theorem Apart.behind {m : Nat} : ∀ {P : List Nat} {f t : Nat} (k : Nat) (hk : k < P.length), Apart m f t P → f ≤ P[k] ∧ Apart m (P[k] + m) t (P.drop (k + 1))
  | p :: P, f, t, 0, _, h => ⟨h.1, h.2⟩
  | p :: P, f, t, k + 1, hk, h => by
    have h1 := h.1
    have h2 := Apart.behind k (Nat.lt_of_succ_lt_succ hk) h.2
    exact ⟨Nat.le_trans (by omega) h2.1, h2.2⟩
/-- the text between two rounds -/
theorem puts_round {α : Type} {m : Nat} (r x : List α) {P : List Nat} {f : Nat} (h : Apart m f (f + x.length) P) {k : Nat} (hk : k < P.length) :
    f ≤ P[k] ∧ P[k] - f + m ≤ (putsL x f m r (P.drop (k + 1))).length ∧ putsL x f m r (P.drop k) = putL (putsL x f m r (P.drop (k + 1))) (P[k] - f) (P[k] - f + m) r := by
  obtain ⟨h1, h2⟩ := Apart.behind k hk h
  have h3 := h2.le
  refine ⟨h1, ?_, by rw [List.drop_eq_getElem_cons hk, putsL_cons]⟩
  rw [putsL_split r _ x f (P[k] + m) (by omega) (by omega) h2, List.length_append, List.length_take]
  omega
set_option maxHeartbeats 16000000 in
theorem refSuDo_any (A : Option Addr) (c : Nat) (S : List UInt8) (l : List RunP) (y : Nat) (hy : y < 18446744073709551616) (A0 B0 : Int) (pat rep : List UInt8) (ev : Bool) (hp : pat.length ≤ 5000) (hr : rep.length ≤ 5000) (w : World) (h : Txu w A S l) :
    Calls Tryd.prog 12 #[.agg #[.string ⟨S.toArray⟩, .slice A l.length c], .int .u64 (y : Nat), .agg #[.int .i64 A0, .int .i64 B0, .string ⟨pat.toArray⟩, .string ⟨rep.toArray⟩, .bool ev]] w (GivesSu w (subS S l y A0 B0 pat rep ev)) := by
  have HF := Lib.hid h.hf
  have HVW := Lib.hid (fun wx hx => refTView_any A c wx.heap.size S l y hy wx (Nat.le_refl _) hx)
  have BX := Lib.hid (boxesE3 w 24 38 32 #[.string ⟨S.toArray⟩, .slice A l.length c] #[.int .i64 A0, .int .i64 B0, .string ⟨pat.toArray⟩, .string ⟨rep.toArray⟩, .bool ev] #[.int .i64 0, .string ⟨#[]⟩, .slice none 0 0, .string ⟨#[]⟩, .slice none 0 0])
  have K := Lib.hid (BX.out.and ((grow_txu h).step BX.out.now.2.2.2))
  clear h BX
  obtain ⟨y0, y1⟩ := txt_cells K.out.now.1.1; obtain ⟨x0, x1, x2, x3, x4⟩ := job_cells15 K.out.now.1.2.1; obtain ⟨⟨u0, u1, u2, u3, u4⟩, u5, u6, u7, u8, u9⟩ := ed_var K.out.now.1.2.2.1
  by_cases hg : goodT S l = true
  · have hgs := goodT_size hg
    have hv : viewOf S l y = (viewTo S (bytesOf l) y, 0) := if_pos hg
    have hvl : (viewTo S (bytesOf l) y).length = S.length := viewTo_len hgs.2.2
    have hways := subS_ways S l y A0 B0 pat rep ev
    rw [hv] at hways HVW
    dsimp only at hways
    obtain ⟨V, hV⟩ : ∃ V, viewTo S (bytesOf l) y = V := ⟨_, rfl⟩
    rw [hV] at hways HVW hvl
    have HMA := Lib.hid (fun wx => refSuMay_any V (by omega) A0 B0 pat rep ev hp (by unfold maxLen; omega) wx)
    have HWY := Lib.hid hways
    have HG := Lib.hid (And.intro hgs.2.1 hgs.2.2)
    have HVE := Lib.hid hV
    have hS := hgs.1
    clear hways hgs hV hv hg
    cases hm : mayS V A0 B0 pat rep with
    | false =>
      have HR : Hid (subS S l y A0 B0 pat rep ev = ((⟨0, [], [], [], []⟩, 0), 2)) := by
        rcases HWY.out with h | h | h | ⟨a, b, V', P, e1, e2, _, H⟩
        · exact h.2
        · exact absurd (Or.inr hm) h.1
        · exact absurd (Or.inr hm) h.1
        · exfalso
          have h1 := H.ab; have h2 := H.bc; have h3 := H.m; have h4 := H.r; have h5 := H.nl
          rw [e1, e2] at hm
          rw [H.v, HVE.out] at h2
          unfold mayS at hm
          rw [decide_eq_true ⟨by omega, by omega, by omega, by omega, by omega⟩, decide_eq_true h5] at hm
          cases hm
      rw [hm] at HMA
      go_enter Tryd.func12, Tryd.ntmps12
      go_upto_region 1 with fail
      generalize ((w.alloc (.cells #[.string ⟨S.toArray⟩, .slice A l.length c] 24)).alloc (.cells #[.int .i64 A0, .int .i64 B0, .string ⟨pat.toArray⟩, .string ⟨rep.toArray⟩, .bool ev] 38)).alloc (.cells #[.int .i64 0, .string ⟨#[]⟩, .slice none 0 0, .string ⟨#[]⟩, .slice none 0 0] 32) = wx at *
      go_wp2_with (first
        | (go_at_call 31; refine (HVW.out _ K.out.now.2).mono ?_; rintro e w2 ⟨rfl, bb⟩; replace K := Lib.hid (K.out.step bb); clear bb y0 y1 x0 x1 x2 x3 x4 u0 u1 u2 u3 u4 u5 u6 u7 u8 u9; obtain ⟨y0, y1⟩ := txt_cells K.out.now.1.1; obtain ⟨x0, x1, x2, x3, x4⟩ := job_cells15 K.out.now.1.2.1; obtain ⟨⟨u0, u1, u2, u3, u4⟩, u5, u6, u7, u8, u9⟩ := ed_var K.out.now.1.2.2.1)
        | (go_at_call 32; refine (HMA.out _).mono ?_; rintro e w3 ⟨rfl, bb⟩; replace K := Lib.hid (K.out.step bb); clear bb y0 y1 x0 x1 x2 x3 x4 u0 u1 u2 u3 u4 u5 u6 u7 u8 u9; obtain ⟨y0, y1⟩ := txt_cells K.out.now.1.1; obtain ⟨x0, x1, x2, x3, x4⟩ := job_cells15 K.out.now.1.2.1; obtain ⟨⟨u0, u1, u2, u3, u4⟩, u5, u6, u7, u8, u9⟩ := ed_var K.out.now.1.2.2.1))
      have E := givesE_zero K.out.now.1.2.2.2 K.out.now.1.2.2.1 (by omega) 2
      refine ret_edit3 rfl _ _ (w.heap.size + 1 + 1) _ _ _ _ _ rfl E.1 rfl ?_
      rw [HR.out]
      obtain ⟨_, _, _, _, _, _, _, hbz⟩ := E.2
      exact givesSu_zero hbz
    | true =>
      have hms := hm
      rw [hm] at HMA
      unfold mayS at hms
      rw [Bool.and_eq_true, decide_eq_true_iff, decide_eq_true_iff] at hms
      obtain ⟨⟨m1, m2, m3, m4, m5⟩, m6⟩ := hms
      obtain ⟨a, rfl⟩ : ∃ a : Nat, A0 = (a : Int) := ⟨A0.toNat, by omega⟩
      obtain ⟨b, rfl⟩ : ∃ b : Nat, B0 = (b : Int) := ⟨B0.toNat, by omega⟩
      have hab : a ≤ b := by omega
      have hbc : b < countL V := by omega
      have HPL := Lib.hid (fun wx hx => refSuPlaces_any A c S V l y hy a b pat rep ev m4 hp hS HG.out.1 HG.out.2 hvl hab hbc wx hx)
      have hpl : (placesL S V (bytesOf l) y pat ev a (b + 1 - a)).length ≤ 4096 := by
        have := places_small (S := S) (V := V) (L := bytesOf l) (y := y) (pat := pat) (every := ev) (a := a) (k := b - a) m4 (by omega)
        rw [show b - a + 1 = b + 1 - a by omega] at this
        omega
      have hways := HWY.out
      rw [Int.toNat_natCast, Int.toNat_natCast, hm] at hways
      obtain ⟨P, hP⟩ : ∃ P, placesL S V (bytesOf l) y pat ev a (b + 1 - a) = P := ⟨_, rfl⟩
      rw [hP] at hways HPL hpl
      have HPE := Lib.hid hP
      replace HWY := Lib.hid hways
      clear hways hP hm m1 m2 m3
      have hmn := mul_near (p := P.length) (m := pat.length) (r := rep.length) (by omega) hp hr
      by_cases h0 : P = []
      · have hl1 : ((P.length : Int) == 0) = true := by rw [h0]; rfl
        have HR : Hid (subS S l y (a : Int) (b : Int) pat rep ev = ((⟨0, [], [], [], []⟩, 0), 6)) := by
          rcases HWY.out with h | h | h | ⟨a', b', V', P', e1, e2, e3, H⟩
          · exact absurd h.1 (by simp)
          · exact h.2.2
          · exact absurd h0 h.2.1
          · exfalso
            obtain rfl : a = a' := by omega
            obtain rfl : b = b' := by omega
            have e4 := H.p
            rw [H.v, HVE.out, HPE.out] at e4
            subst e4
            exact e3 h0
        go_enter Tryd.func12, Tryd.ntmps12
        go_upto_region 1 with fail
        generalize ((w.alloc (.cells #[.string ⟨S.toArray⟩, .slice A l.length c] 24)).alloc (.cells #[.int .i64 (a : Nat), .int .i64 (b : Nat), .string ⟨pat.toArray⟩, .string ⟨rep.toArray⟩, .bool ev] 38)).alloc (.cells #[.int .i64 0, .string ⟨#[]⟩, .slice none 0 0, .string ⟨#[]⟩, .slice none 0 0] 32) = wx at *
        go_wp2_with (first
          | (go_at_call 31; refine (HVW.out _ K.out.now.2).mono ?_; rintro e w2 ⟨rfl, bb⟩; replace K := Lib.hid (K.out.step bb); clear bb y0 y1 x0 x1 x2 x3 x4 u0 u1 u2 u3 u4 u5 u6 u7 u8 u9; obtain ⟨y0, y1⟩ := txt_cells K.out.now.1.1; obtain ⟨x0, x1, x2, x3, x4⟩ := job_cells15 K.out.now.1.2.1; obtain ⟨⟨u0, u1, u2, u3, u4⟩, u5, u6, u7, u8, u9⟩ := ed_var K.out.now.1.2.2.1)
          | (go_at_call 32; refine (HMA.out _).mono ?_; rintro e w3 ⟨rfl, bb⟩; replace K := Lib.hid (K.out.step bb); clear bb y0 y1 x0 x1 x2 x3 x4 u0 u1 u2 u3 u4 u5 u6 u7 u8 u9; obtain ⟨y0, y1⟩ := txt_cells K.out.now.1.1; obtain ⟨x0, x1, x2, x3, x4⟩ := job_cells15 K.out.now.1.2.1; obtain ⟨⟨u0, u1, u2, u3, u4⟩, u5, u6, u7, u8, u9⟩ := ed_var K.out.now.1.2.2.1)
          | (go_at_call 33; refine (HPL.out _ K.out.now.2).mono ?_; rintro e w4 ⟨A3, c3, rfl, own, bb⟩; have RP : Grow w4 (fun w' => Row w' w4.heap.size A3 (P.map intn)) := fun w' hb' => (Row.of_own own).below hb'; replace K := Lib.hid ((K.out.step bb).and RP); clear own RP; clear bb y0 y1 x0 x1 x2 x3 x4 u0 u1 u2 u3 u4 u5 u6 u7 u8 u9; obtain ⟨y0, y1⟩ := txt_cells K.out.now.1.1.1; obtain ⟨x0, x1, x2, x3, x4⟩ := job_cells15 K.out.now.1.1.2.1; obtain ⟨⟨u0, u1, u2, u3, u4⟩, u5, u6, u7, u8, u9⟩ := ed_var K.out.now.1.1.2.2.1))
        have E := givesE_zero K.out.now.1.1.2.2.2 K.out.now.1.1.2.2.1 (by omega) 6
        refine ret_edit3 rfl _ _ (w.heap.size + 1 + 1) _ _ _ _ _ rfl E.1 rfl ?_
        rw [HR.out]
        obtain ⟨_, _, _, _, _, _, _, hbz⟩ := E.2
        exact givesSu_zero hbz
      · have hl0 : ¬ P.length = 0 := fun e => h0 (List.eq_nil_of_length_eq_zero e)
        have hl1 : ((P.length : Int) == 0) = false := by rw [beq_eq_false_iff_ne]; omega
        by_cases hbig : (S.length : Int) + (P.length : Int) * ((rep.length : Int) - (pat.length : Int)) > 4096
        · have hbd : decide ((S.length : Int) + (P.length : Int) * ((rep.length : Int) - (pat.length : Int)) > 4096) = true := decide_eq_true hbig
          have hw1 : IntKind.i64.wrap ((P.length : Int) * ((rep.length : Int) - (pat.length : Int))) = (P.length : Int) * ((rep.length : Int) - (pat.length : Int)) := wrapS_near (by omega) (by omega)
          have hw2 : IntKind.i64.wrap ((S.length : Int) + (P.length : Int) * ((rep.length : Int) - (pat.length : Int))) = (S.length : Int) + (P.length : Int) * ((rep.length : Int) - (pat.length : Int)) := wrapS_near (by omega) (by omega)
          have HR : Hid (subS S l y (a : Int) (b : Int) pat rep ev = ((⟨0, [], [], [], []⟩, 0), 3)) := by
            rcases HWY.out with h | h | h | ⟨a', b', V', P', e1, e2, e3, H⟩
            · exact absurd h.1 (by simp)
            · exact absurd h.2.1 h0
            · exact h.2.2.2
            · exfalso
              obtain rfl : a = a' := by omega
              obtain rfl : b = b' := by omega
              have e4 := H.p
              rw [H.v, HVE.out, HPE.out] at e4
              subst e4
              have := H.fit; omega
          go_enter Tryd.func12, Tryd.ntmps12
          go_upto_region 1 with fail
          generalize ((w.alloc (.cells #[.string ⟨S.toArray⟩, .slice A l.length c] 24)).alloc (.cells #[.int .i64 (a : Nat), .int .i64 (b : Nat), .string ⟨pat.toArray⟩, .string ⟨rep.toArray⟩, .bool ev] 38)).alloc (.cells #[.int .i64 0, .string ⟨#[]⟩, .slice none 0 0, .string ⟨#[]⟩, .slice none 0 0] 32) = wx at *
          go_wp2_with (first
            | (go_at_call 31; refine (HVW.out _ K.out.now.2).mono ?_; rintro e w2 ⟨rfl, bb⟩; replace K := Lib.hid (K.out.step bb); clear bb y0 y1 x0 x1 x2 x3 x4 u0 u1 u2 u3 u4 u5 u6 u7 u8 u9; obtain ⟨y0, y1⟩ := txt_cells K.out.now.1.1; obtain ⟨x0, x1, x2, x3, x4⟩ := job_cells15 K.out.now.1.2.1; obtain ⟨⟨u0, u1, u2, u3, u4⟩, u5, u6, u7, u8, u9⟩ := ed_var K.out.now.1.2.2.1)
            | (go_at_call 32; refine (HMA.out _).mono ?_; rintro e w3 ⟨rfl, bb⟩; replace K := Lib.hid (K.out.step bb); clear bb y0 y1 x0 x1 x2 x3 x4 u0 u1 u2 u3 u4 u5 u6 u7 u8 u9; obtain ⟨y0, y1⟩ := txt_cells K.out.now.1.1; obtain ⟨x0, x1, x2, x3, x4⟩ := job_cells15 K.out.now.1.2.1; obtain ⟨⟨u0, u1, u2, u3, u4⟩, u5, u6, u7, u8, u9⟩ := ed_var K.out.now.1.2.2.1)
            | (go_at_call 33; refine (HPL.out _ K.out.now.2).mono ?_; rintro e w4 ⟨A3, c3, rfl, own, bb⟩; have RP : Grow w4 (fun w' => Row w' w4.heap.size A3 (P.map intn)) := fun w' hb' => (Row.of_own own).below hb'; replace K := Lib.hid ((K.out.step bb).and RP); clear own RP; clear bb y0 y1 x0 x1 x2 x3 x4 u0 u1 u2 u3 u4 u5 u6 u7 u8 u9; obtain ⟨y0, y1⟩ := txt_cells K.out.now.1.1.1; obtain ⟨x0, x1, x2, x3, x4⟩ := job_cells15 K.out.now.1.1.2.1; obtain ⟨⟨u0, u1, u2, u3, u4⟩, u5, u6, u7, u8, u9⟩ := ed_var K.out.now.1.1.2.2.1))
          have E := givesE_zero K.out.now.1.1.2.2.2 K.out.now.1.1.2.2.1 (by omega) 3
          refine ret_edit3 rfl _ _ (w.heap.size + 1 + 1) _ _ _ _ _ rfl E.1 rfl ?_
          rw [HR.out]
          obtain ⟨_, _, _, _, _, _, _, hbz⟩ := E.2
          exact givesSu_zero hbz
        · have hbd : decide ((S.length : Int) + (P.length : Int) * ((rep.length : Int) - (pat.length : Int)) > 4096) = false := decide_eq_false hbig
          have hw1 : IntKind.i64.wrap ((P.length : Int) * ((rep.length : Int) - (pat.length : Int))) = (P.length : Int) * ((rep.length : Int) - (pat.length : Int)) := wrapS_near (by omega) (by omega)
          have hw2 : IntKind.i64.wrap ((S.length : Int) + (P.length : Int) * ((rep.length : Int) - (pat.length : Int))) = (S.length : Int) + (P.length : Int) * ((rep.length : Int) - (pat.length : Int)) := wrapS_near (by omega) (by omega)
          have HH : Hid (SubP S l y a b pat rep ev V P) := by
            rcases HWY.out with h | h | h | ⟨a', b', V', P', e1, e2, e3, H⟩
            · exact absurd h.1 (by simp)
            · exact absurd h.2.1 h0
            · exact absurd h.2.2.1 hbig
            · obtain rfl : a = a' := by omega
              obtain rfl : b = b' := by omega
              have e4 := H.p
              have e5 := H.v
              rw [HVE.out] at e5
              subst e5
              rw [HPE.out] at e4
              subst e4
              exact H
          have HR := Lib.hid (subS_ok HH.out h0)
          have HMD := Lib.hid HH.out.made
          have hle := HH.out.le
          have HB1 := Lib.hid (fun wx => refBounds_any V (by omega) (a : Int) wx)
          have HB2 := Lib.hid (fun wx => refBounds_any V (by omega) (b : Int) wx)
          rw [boundsL_nat (by omega)] at HB1 HB2
          have HMK := Lib.hid (fun wx => refTMake_any rep (by unfold maxLen; omega) y hy wx)
          have hmk : makeOf rep y = ((rep, pack (List.replicate rep.length y)), 0) := if_pos m5
          have HOM := Lib.hid (okT_make rep y hy)
          rw [hmk] at HMK HOM
          have hw : withinT S l (begL V a : Nat) (endL V b : Nat) = true := by
            unfold withinT
            rw [HH.out.g, decide_eq_true (by omega : (0 : Int) ≤ (begL V a : Nat)), decide_eq_true (by omega : ((begL V a : Nat) : Int) ≤ (endL V b : Nat)), decide_eq_true (by omega : ((endL V b : Nat) : Int) ≤ (S.length : Int))]
            rfl
          have hcu : cutOf S l (begL V a : Nat) (endL V b : Nat) = (((S.drop (begL V a)).take (endL V b - begL V a), pack (((bytesOf l).drop (begL V a)).take (endL V b - begL V a))), 0) := by
            unfold cutOf
            rw [if_pos hw]
            unfold cut
            rw [Int.toNat_natCast, show ((endL V b : Nat) : Int) - ((begL V a : Nat) : Int) = ((endL V b - begL V a : Nat) : Int) by omega, Int.toNat_natCast]
          have HCU := Lib.hid (fun wx hx => refTCut_any A c wx.heap.size S l (begL V a : Nat) (endL V b : Nat) wx (Nat.le_refl _) hx)
          have HOC := Lib.hid (okT_cut (S := S) HF.out (begL V a : Nat) (endL V b : Nat))
          rw [hcu] at HCU HOC
          have hap := HH.out.apartX S rfl
          have hlX := HH.out.cutLen S rfl
          have hlL := HH.out.cutLen (bytesOf l) HH.out.lab
          have HLB := Lib.hid (bytesOf_mem HF.out)
          have hfit := HH.out.fit
          have HLM : Hid (∀ v ∈ ((bytesOf l).drop (begL V a)).take (endL V b - begL V a), v < 18446744073709551616) := fun v hv => HLB.out v (List.mem_of_mem_drop (List.mem_of_mem_take hv))
          clear hw hcu hmk HLB m6
          generalize (S.drop (begL V a)).take (endL V b - begL V a) = X0 at *
          generalize ((bytesOf l).drop (begL V a)).take (endL V b - begL V a) = L0 at *
          generalize begL V a = f at *
          generalize endL V b = t at *
          -- the rounds
          have HRD : Hid (∀ k, k ≤ P.length → (putsL X0 f pat.length rep (P.drop k)).length ≤ 4096 ∧ (putsL L0 f pat.length (List.replicate rep.length y) (P.drop k)).length = (putsL X0 f pat.length rep (P.drop k)).length ∧ ∀ v ∈ putsL L0 f pat.length (List.replicate rep.length y) (P.drop k), v < 18446744073709551616) := fun k hk => by
            have q1 := putsL_len rep (P.drop k) X0 f (hap.drop k)
            have q2 := putsL_len (List.replicate rep.length y) (P.drop k) L0 f (by rw [hlL, ← hlX]; exact hap.drop k)
            rw [List.length_replicate, hlL] at q2
            rw [hlX] at q1
            refine ⟨between_le (n := P.length) (by rw [List.length_drop]; omega) q1 (by omega) ?_, by omega, fun v hv => ?_⟩
            · have := Int.mul_comm (P.length : Int) 1
              omega
            · rcases puts_mem (P.drop k) L0 f v hv with h | h
              · exact HLM.out v h
              · rw [(List.mem_replicate.1 h).2]; exact hy
          go_enter Tryd.func12, Tryd.ntmps12
          go_upto_region 1 with fail
          generalize ((w.alloc (.cells #[.string ⟨S.toArray⟩, .slice A l.length c] 24)).alloc (.cells #[.int .i64 (a : Nat), .int .i64 (b : Nat), .string ⟨pat.toArray⟩, .string ⟨rep.toArray⟩, .bool ev] 38)).alloc (.cells #[.int .i64 0, .string ⟨#[]⟩, .slice none 0 0, .string ⟨#[]⟩, .slice none 0 0] 32) = wx at *
          go_upto_region 9 with (first
            | (go_at_call 31; refine (HVW.out _ K.out.now.2).mono ?_; rintro e w2 ⟨rfl, bb⟩; replace K := Lib.hid (K.out.step bb); clear bb y0 y1 x0 x1 x2 x3 x4 u0 u1 u2 u3 u4 u5 u6 u7 u8 u9; obtain ⟨y0, y1⟩ := txt_cells K.out.now.1.1; obtain ⟨x0, x1, x2, x3, x4⟩ := job_cells15 K.out.now.1.2.1; obtain ⟨⟨u0, u1, u2, u3, u4⟩, u5, u6, u7, u8, u9⟩ := ed_var K.out.now.1.2.2.1)
            | (go_at_call 32; refine (HMA.out _).mono ?_; rintro e w3 ⟨rfl, bb⟩; replace K := Lib.hid (K.out.step bb); clear bb y0 y1 x0 x1 x2 x3 x4 u0 u1 u2 u3 u4 u5 u6 u7 u8 u9; obtain ⟨y0, y1⟩ := txt_cells K.out.now.1.1; obtain ⟨x0, x1, x2, x3, x4⟩ := job_cells15 K.out.now.1.2.1; obtain ⟨⟨u0, u1, u2, u3, u4⟩, u5, u6, u7, u8, u9⟩ := ed_var K.out.now.1.2.2.1)
            | (go_at_call 33; refine (HPL.out _ K.out.now.2).mono ?_; rintro e w4 ⟨A3, c3, rfl, own, bb⟩; have RP : Grow w4 (fun w' => Row w' w4.heap.size A3 (P.map intn)) := fun w' hb' => (Row.of_own own).below hb'; replace K := Lib.hid ((K.out.step bb).and RP); clear own RP; clear bb y0 y1 x0 x1 x2 x3 x4 u0 u1 u2 u3 u4 u5 u6 u7 u8 u9; obtain ⟨y0, y1⟩ := txt_cells K.out.now.1.1.1; obtain ⟨x0, x1, x2, x3, x4⟩ := job_cells15 K.out.now.1.1.2.1; obtain ⟨⟨u0, u1, u2, u3, u4⟩, u5, u6, u7, u8, u9⟩ := ed_var K.out.now.1.1.2.2.1))
          go_upto_region 10 with (go_at_call 34; refine (HB1.out _).mono ?_; rintro e w5 ⟨rfl, bb⟩; replace K := Lib.hid (K.out.step bb); clear bb y0 y1 x0 x1 x2 x3 x4 u0 u1 u2 u3 u4 u5 u6 u7 u8 u9; obtain ⟨y0, y1⟩ := txt_cells K.out.now.1.1.1; obtain ⟨x0, x1, x2, x3, x4⟩ := job_cells15 K.out.now.1.1.2.1; obtain ⟨⟨u0, u1, u2, u3, u4⟩, u5, u6, u7, u8, u9⟩ := ed_var K.out.now.1.1.2.2.1)
          go_upto_region 11 with (go_at_call 34; refine (HB2.out _).mono ?_; rintro e w6 ⟨rfl, bb⟩; replace K := Lib.hid (K.out.step bb); clear bb y0 y1 x0 x1 x2 x3 x4 u0 u1 u2 u3 u4 u5 u6 u7 u8 u9; obtain ⟨y0, y1⟩ := txt_cells K.out.now.1.1.1; obtain ⟨x0, x1, x2, x3, x4⟩ := job_cells15 K.out.now.1.1.2.1; obtain ⟨⟨u0, u1, u2, u3, u4⟩, u5, u6, u7, u8, u9⟩ := ed_var K.out.now.1.1.2.2.1)
          go_upto_region 12 with (go_at_call 35; refine (HMK.out _).mono ?_; rintro e w7 ⟨A6, c6, rfl, own6, bb⟩; dsimp only at own6 ⊢; rw [show ((0 : Nat) : Int) = 0 from rfl]; replace K := Lib.hid ((K.out.step bb).var (c := c6) (OkT.txt2 HOM.out (Row.of_own own6))); clear own6; clear bb y0 y1 x0 x1 x2 x3 x4 u0 u1 u2 u3 u4 u5 u6 u7 u8 u9; obtain ⟨y0, y1⟩ := txt_cells K.out.now.2.1.1.1; obtain ⟨x0, x1, x2, x3, x4⟩ := job_cells15 K.out.now.2.1.1.2.1; obtain ⟨⟨u0, u1, u2, u3, u4⟩, u5, u6, u7, u8, u9⟩ := ed_var K.out.now.2.1.1.2.2.1; obtain ⟨z0, z1⟩ := txt_cells K.out.now.1.1)
          generalize w7.heap.size = g6 at *
          generalize w7.alloc (.cells #[.string ⟨rep.toArray⟩, .slice A6 (pack (List.replicate rep.length y)).length c6] 24) = w8 at *
          go_upto_region 13 with (go_at_call 36; refine (HCU.out _ K.out.now.2.1.2).mono ?_; rintro e w9 ⟨A8, c8, rfl, own8, bb⟩; dsimp only at own8 ⊢; rw [show ((0 : Nat) : Int) = 0 from rfl]; replace K := Lib.hid (K.out.step bb); have KX := Lib.hid (K.out.var (c := c8) (OkT.txt2 HOC.out (Row.of_own own8))); have R8 := Lib.hid (Row.of_own own8); clear own8; clear bb y0 y1 x0 x1 x2 x3 x4 u0 u1 u2 u3 u4 u5 u6 u7 u8 u9; clear z0 z1; obtain ⟨v0, v1, v2, v3⟩ := txt_var KX.out.now.1.1)
          have hgx : w9.heap.size < (w9.alloc (.cells #[.string ⟨X0.toArray⟩, .slice A8 (pack L0).length c8] 24)).heap.size := by simp
          have RX : RowN (w9.alloc (.cells #[.string ⟨X0.toArray⟩, .slice A8 (pack L0).length c8] 24)) w9.heap.size A8 (flatR (pack L0)) := rowN_row (R8.out.alloc (Nat.le_refl _) _) (by omega) (Nat.le_refl _)
          have BX9 : Below w9.heap.size w9 (w9.alloc (.cells #[.string ⟨X0.toArray⟩, .slice A8 (pack L0).length c8] 24)) := (Below.refl _ _).alloc (Nat.le_refl _) _
          have KX1 := Lib.hid (And.intro KX.out.now.1.1 (And.intro RX BX9))
          clear KX R8 RX BX9 hgx
          generalize w9.alloc (.cells #[.string ⟨X0.toArray⟩, .slice A8 (pack L0).length c8] 24) = wx9 at *
          go_upto_region 14 with fail
          clear v0 v1 v2 v3
          go_loopw [22, 23] (fun i _ wr => ∃ (k : Nat) (A9 : Option Addr) (c9 : Nat) (i0 : Int), i = .int .i64 i0 ∧ i0 = (k : Int) - 1 ∧ k ≤ P.length ∧ Blk wr w9.heap.size 24 #[.string ⟨(putsL X0 f pat.length rep (P.drop k)).toArray⟩, .slice A9 (pack (putsL L0 f pat.length (List.replicate rep.length y) (P.drop k))).length c9] ∧ RowN wr w9.heap.size A9 (flatR (pack (putsL L0 f pat.length (List.replicate rep.length y) (P.drop k)))) ∧ Below w9.heap.size w9 wr) (fun i _ _ => (intOf i + 1).toNat)
          case atStart => exact ⟨P.length, A8, c8, _, rfl, rfl, Nat.le_refl _, by rw [List.drop_length]; exact KX1.out.1, by rw [List.drop_length]; exact KX1.out.2.1, KX1.out.2.2⟩
          case round =>
            clear KX1
            obtain ⟨k, A9, c9, i0, rfl, hi0, hk, hB, hR, hbl⟩ := hrel
            obtain ⟨y0, y1⟩ := txt_cells (K.out _ hbl).2.1.1.1
            obtain ⟨x0, x1, x2, x3, x4⟩ := job_cells15 (K.out _ hbl).2.1.1.2.1
            obtain ⟨z0, z1⟩ := txt_cells (K.out _ hbl).1.1
            obtain ⟨v0, v1, v2, v3⟩ := txt_var hB
            obtain ⟨d1, d2, d3⟩ := HRD.out k hk
            have HTX := Lib.hid (OkT.txt2 (okT_pack (n := 0) d1 d3 (by rw [d2]; exact d1)) hR.row)
            by_cases hk0 : k = 0
            · have hge : decide (i0 ≥ 0) = false := decide_eq_false (by omega)
              clear hi0
              have e0 : P.drop k = P := by rw [hk0]; rfl
              rw [e0] at hB hR HTX d1 d2 d3 v0 v1
              have HOF := Lib.hid (fun wx hx hX => refEOf_any A A9 c c9 S l (f : Int) (t : Int) (putsL X0 f pat.length rep P) (pack (putsL L0 f pat.length (List.replicate rep.length y) P)) wx hx hX)
              rw [HMD.out] at HOF
              have HO9 := Lib.hid (okT_pack (n := 0) d1 d3 (by rw [d2]; exact d1))
              have HBL := Lib.hid hbl
              clear e0 d1 d2 d3 hB hR hbl hap hlX hlL HRD HMD hfit hle HLM
              generalize putsL X0 f pat.length rep P = X9 at *
              generalize putsL L0 f pat.length (List.replicate rep.length y) P = L9 at *
              go_upto_region 19 with (go_at_call 38; refine (HOF.out _ (K.out _ HBL.out).2.1.2 HTX.out).mono ?_; rintro e wu ⟨A11, c11, A12, c12, rfl, r11, r12, bb⟩; dsimp only at r11 r12 ⊢; rw [show ((0 : Nat) : Int) = 0 from rfl]; have KE := Lib.hid ((K.out.step (HBL.out.trans (bb.mono HBL.out.size))).evar (c := c11) (d := c12) (a := (f : Int)) (A := A11) (B := A12) (OkT.txt2 HOC.out r11) (OkT.txt2 HO9.out r12)); clear r11 r12 bb y0 y1 x0 x1 x2 x3 x4 z0 z1 v0 v1 v2 v3; obtain ⟨v0, v1, v2, v3, v4⟩ := ed_cells KE.out.now.1.1; obtain ⟨⟨u0, u1, u2, u3, u4⟩, u5, u6, u7, u8, u9⟩ := ed_var KE.out.now.2.2.1.1.2.2.1)
              go_wp2_with fail
              have E := edit_end (A := A11) (A2 := A12) (l := pack L0) (m := pack L9) (s := ⟨X0.toArray⟩) (x := ⟨X9.toArray⟩) (f : Int) KE.out.now.2.2.1.1.2.2.2 KE.out.now.2.2.1.1.2.2.1 (by omega) (rowN_noLab KE.out.now.1.2.1.row (Nat.le_refl _) KE.out.now.2.2.1.1.2.2.1 (noLab_edit _ _ _ _ _ _ _ _ _)) (rowN_noLab KE.out.now.1.2.2.row (Nat.le_refl _) KE.out.now.2.2.1.1.2.2.1 (noLab_edit _ _ _ _ _ _ _ _ _)) (.slice A11 (pack L0).length c11) (.slice A12 (pack L9).length c12)
              refine ret_edit3 rfl _ _ (w.heap.size + 1 + 1) _ _ _ _ _ rfl E.1 rfl ?_
              rw [HR.out]
              exact ⟨A11, c11, A12, c12, rfl, E.2.1, E.2.2.1, E.2.2.2⟩
            · obtain ⟨j, rfl⟩ : ∃ j, k = j + 1 := ⟨k - 1, by omega⟩
              obtain rfl : i0 = (j : Int) := by omega
              clear hi0
              have hj : j < P.length := by omega
              obtain ⟨ad, rfl, hbk, hc⟩ := (K.out _ hbl).2.2.map_at hj
              unfold intn at hc
              obtain ⟨r1, r2, r3⟩ := puts_round rep X0 hap hj
              obtain ⟨_, _, r4⟩ := puts_round (List.replicate rep.length y) L0 (by rw [hlL, ← hlX]; exact hap) hj
              have HX := Lib.hid r3
              have HXL := Lib.hid r4
              have hpm := (hap.mem P[j] (List.getElem_mem hj)).2
              clear r3 r4
              generalize P[j] = p at *
              generalize putsL X0 f pat.length rep (P.drop (j + 1)) = X1 at *
              generalize putsL L0 f pat.length (List.replicate rep.length y) (P.drop (j + 1)) = L1 at *
              have hrl : (List.replicate rep.length y).length = rep.length := List.length_replicate
              have HPU : Hid (∀ wr, Txu wr A9 X1 (pack L1) → Txu wr A6 rep (pack (List.replicate rep.length y)) → Calls Tryd.prog 37 #[.agg #[.string ⟨X1.toArray⟩, .slice A9 (pack L1).length c9], .int .i64 ((p : Int) - (f : Int)), .int .i64 ((p : Int) - (f : Int) + (pat.length : Int)), .agg #[.string ⟨rep.toArray⟩, .slice A6 (pack (List.replicate rep.length y)).length c6]] wr (GivesT1 wr (putL X1 (p - f) (p - f + pat.length) rep) (pack (putL L1 (p - f) (p - f + pat.length) (List.replicate rep.length y))))) := fun wr h1 h2 => by
                have := refSuPut_any A9 A6 c9 c6 X1 rep (pack L1) (pack (List.replicate rep.length y)) (p - f) (p - f + pat.length) (by omega) r2 d1 m5 (by rw [sumN_pack]; omega) (by rw [sumN_pack, hrl]; exact m5) (by rw [bytesOf_pack]; exact d2) (by rw [bytesOf_pack]; exact hrl) wr h1 h2
                rw [bytesOf_pack, bytesOf_pack, show ((p - f + pat.length : Nat) : Int) = (p : Int) - (f : Int) + (pat.length : Int) by omega, show ((p - f : Nat) : Int) = (p : Int) - (f : Int) by omega] at this
                exact this
              have hge : decide ((j : Int) ≥ 0) = true := decide_eq_true (by omega)
              have hgw := hB.lt
              have HBB := Lib.hid hB
              have HBL := Lib.hid hbl
              have HT6 := Lib.hid (K.out _ hbl).1.2
              have hpb : (p : Int) ≤ 5000 := by omega
              have hjb : j ≤ 5000 := by omega
              have hpf : (f : Int) ≤ (p : Int) := by omega
              clear hrl d1 d2 d3 r1 r2 hlX hlL hap hpm hw1 hw2 hbd hmn hfit hle hpl hvl hab hbc m4 m5 hl0 hl1 h0 hbig hB hbl hR hbk
              go_wp2_with (go_at_call 37; refine (HPU.out _ HTX.out HT6.out).mono ?_; rintro e wq ⟨A10, c10, rfl, own10, bb⟩; have HQ := Lib.hid (HBB.out.below bb hgw); have HQR := Lib.hid (rowN_own own10 hgw); have HQB := Lib.hid (HBL.out.trans (bb.mono HBL.out.size)); clear bb own10 v0 v1 v2 v3; obtain ⟨v0, v1, v2, v3⟩ := txt_var HQ.out)
              go_roundw
              case rel => exact ⟨j, A10, c10, (j : Int) - 1, by go_num, rfl, by omega, by rw [HX.out, HXL.out]; exact blk_two HQ.out _ _, by rw [HXL.out]; exact (HQR.out.set 0 _).set 1 _, (HQB.out.setCell (Nat.le_refl _) _).setCell (Nat.le_refl _) _⟩
              case measure => simp [intOf]
  · have HR : Hid (subS S l y A0 B0 pat rep ev = ((⟨0, [], [], [], []⟩, 0), 2)) := by
      show _ = _; unfold subS viewOf; rw [if_neg hg]; exact if_pos (Or.inl (by decide))
    have hv : viewOf S l y = ([], 2) := if_neg hg
    rw [hv] at HVW
    go_enter Tryd.func12, Tryd.ntmps12
    go_upto_region 1 with fail
    generalize ((w.alloc (.cells #[.string ⟨S.toArray⟩, .slice A l.length c] 24)).alloc (.cells #[.int .i64 A0, .int .i64 B0, .string ⟨pat.toArray⟩, .string ⟨rep.toArray⟩, .bool ev] 38)).alloc (.cells #[.int .i64 0, .string ⟨#[]⟩, .slice none 0 0, .string ⟨#[]⟩, .slice none 0 0] 32) = wx at *
    go_wp2_with (go_at_call 31; refine (HVW.out _ K.out.now.2).mono ?_; rintro e w2 ⟨rfl, bb⟩; replace K := Lib.hid (K.out.step bb); clear bb y0 y1 x0 x1 x2 x3 x4 u0 u1 u2 u3 u4 u5 u6 u7 u8 u9; obtain ⟨y0, y1⟩ := txt_cells K.out.now.1.1; obtain ⟨x0, x1, x2, x3, x4⟩ := job_cells15 K.out.now.1.2.1; obtain ⟨⟨u0, u1, u2, u3, u4⟩, u5, u6, u7, u8, u9⟩ := ed_var K.out.now.1.2.2.1)
    have E := givesE_zero K.out.now.1.2.2.2 K.out.now.1.2.2.1 (by omega) 2
    refine ret_edit3 rfl _ _ (w.heap.size + 1 + 1) _ _ _ _ _ rfl E.1 rfl ?_
    rw [HR.out]
    obtain ⟨_, _, _, _, _, _, _, hbz⟩ := E.2
    exact givesSu_zero hbz
end Go.Proofs.YtgmeamefbfgbgaaDoor

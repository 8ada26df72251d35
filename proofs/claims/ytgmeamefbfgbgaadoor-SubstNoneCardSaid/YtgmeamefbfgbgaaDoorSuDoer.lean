/-
  The landed Do: layer 15.
-/
import Derived.Test.YtgmeamefbfgbgaaDoorSuRpl
import Derived.Test.YtgmeamefbfgbgaaDoorSuAlow
import Derived.Test.YtgmeamefbfgbgaaDoorM04o
import Derived.Test.YtgmeamefbfgbgaaDoorM06l
import Derived.Test.YtgmeamefbfgbgaaDoorM07e
import Derived.Test.YtgmeamefbfgbgaaDoorSuDo
namespace Go.Proofs.YtgmeamefbfgbgaaDoor
open Go.RowKit
set_option maxRecDepth 100000

theorem su_cap {w : World} {base e size n c : Nat} {A : Option Addr} {xs : List Value} (h : w.ownsRow base e size (.slice A n c) n xs) : n ≤ c := by
  rcases h.2 with ⟨hv, hn⟩ | ⟨g, cap, cur, hv, _, _, hc, _⟩
  · omega
  · injection hv with _ _ h3
    omega
theorem su_cut {w : World} {B : Nat} {A : Option Addr} {xs : List Value} (h : Row w B A xs) (f n : Nat) : Row w B (A.map fun x => x.add f) ((xs.drop f).take n) := by
  rcases h with h | ⟨ad, rfl, hb, hc⟩
  · exact .inl (by rw [h]; simp)
  · refine .inr ⟨ad.add f, rfl, by rw [add_block]; exact hb, fun j u hj => ?_⟩
    rw [Addr.add_add]
    refine hc (f + j) u ?_
    rcases Nat.lt_or_ge j n with h | h
    · rw [List.getElem?_take_of_lt h, List.getElem?_drop] at hj
      exact hj
    · rw [List.getElem?_eq_none (by rw [List.length_take]; omega)] at hj
      cases hj
theorem su_al {a w : World} (h : Below a.heap.size a w) (o : Obj) : Below a.heap.size a (w.alloc o) := h.alloc h.size o
theorem su_set2 {a w : World} (h : Below a.heap.size a w) (u v : Value) : Below a.heap.size a ((w.setCell ⟨a.heap.size, 0, none⟩ u).setCell ⟨a.heap.size, 1, none⟩ v) := (h.setCell (Nat.le_refl _) _).setCell (Nat.le_refl _) _
theorem su_row_al {w : World} {A : Option Addr} {xs : List Value} (h : Row w w.heap.size A xs) (o : Obj) : Row (w.alloc o) (w.alloc o).heap.size A xs := (h.alloc (Nat.le_refl _) o).more (by rw [World.size_alloc]; omega)
theorem noLab_zero : NoLab #[.string ⟨#[]⟩, .slice none 0 0] := by
  intro v hv n
  simp at hv
  rcases hv with rfl | rfl <;> simp
theorem su_row_two {w : World} {A : Option Addr} {l : List RunP} {g T : Nat} (h : Row w w.heap.size A (flatR l)) (hg : Blk w g T #[.string ⟨#[]⟩, .slice none 0 0]) (u v : Value) : Row ((w.setCell ⟨g, 0, none⟩ u).setCell ⟨g, 1, none⟩ v) ((w.setCell ⟨g, 0, none⟩ u).setCell ⟨g, 1, none⟩ v).heap.size A (flatR l) :=
  (((rowN_noLab h (Nat.le_refl _) hg noLab_zero).set 0 u).set 1 v).row
theorem tot_split (S : List UInt8) : totS (linesOf S) = S.length + 1 := by
  induction S with
  | nil => rfl
  | cons b t ih =>
    unfold linesOf
    by_cases h : b = 10
    · rw [if_pos h, totS_cons, ih]; simp; omega
    · rw [if_neg h, totS_cons]
      rcases hl : linesOf t with _ | ⟨x, r⟩
      · exact absurd hl (linesOf_ne t)
      · rw [hl, totS_cons] at ih
        simp only [List.headD_cons, List.tail_cons, List.length_cons]
        omega
theorem apart_shift {m : Nat} : ∀ {P : List Nat} {f t : Nat}, Apart m f t P → ∀ {F : Nat}, F ≤ f → Apart m (f - F) (t - F) (P.map (· - F))
  | [], f, t, h, F, hF => by
    show f - F ≤ t - F
    have : f ≤ t := h
    omega
  | p :: P, f, t, h, F, hF => by
    have h1 := h.1
    refine ⟨by show f - F ≤ p - F; omega, ?_⟩
    have := apart_shift h.2 (F := F) (by omega)
    rw [show p + m - F = p - F + m by omega] at this
    exact this
set_option maxHeartbeats 16000000 in
theorem suDo_any (A : Option Addr) (c : Nat) (S : List UInt8) (l : List RunP) (y : Nat) (hy : y < 18446744073709551616) (A0 B0 : Int) (pat rep : List UInt8) (ev : Bool) (hp : pat.length ≤ 5000) (hr : rep.length ≤ 5000) (w : World) (h : Txu w A S l) (hmx : MaxW w) :
    Calls Tryd.prog 11 #[.agg #[.string ⟨S.toArray⟩, .slice A l.length c], .int .u64 (y : Nat), .agg #[.int .i64 A0, .int .i64 B0, .string ⟨pat.toArray⟩, .string ⟨rep.toArray⟩, .bool ev]] w (GivesSu w (subS S l y A0 B0 pat rep ev)) := by
  have HF := Lib.hid h.hf
  have HMX := Lib.hid hmx
  have HVW := Lib.hid (fun wx hx => stpView_any A c wx.heap.size S l y hy wx (Nat.le_refl _) hx)
  have BX := Lib.hid (boxesE3 w 24 28 32 #[.string ⟨S.toArray⟩, .slice A l.length c] #[.int .i64 A0, .int .i64 B0, .string ⟨pat.toArray⟩, .string ⟨rep.toArray⟩, .bool ev] #[.int .i64 0, .string ⟨#[]⟩, .slice none 0 0, .string ⟨#[]⟩, .slice none 0 0])
  have K := Lib.hid (BX.out.and ((grow_txu h).step BX.out.now.2.2.2))
  clear h BX hmx
  obtain ⟨y0, y1⟩ := txt_cells K.out.now.1.1; obtain ⟨x0, x1, x2, x3, x4⟩ := su_job K.out.now.1.2.1; obtain ⟨⟨u0, u1, u2, u3, u4⟩, u5, u6, u7, u8, u9⟩ := ed_var K.out.now.1.2.2.1
  by_cases hg : goodT S l = true
  · have hgs := goodT_size hg
    have hv : viewOf S l y = (viewTo S (bytesOf l) y, 0) := if_pos hg
    have hvl : (viewTo S (bytesOf l) y).length = S.length := viewTo_len hgs.2.2
    have hways := subS_ways S l y A0 B0 pat rep ev
    rw [hv] at hways HVW
    dsimp only at hways
    obtain ⟨V, hV⟩ : ∃ V, viewTo S (bytesOf l) y = V := ⟨_, rfl⟩
    rw [hV] at hways HVW hvl
    have HMA := Lib.hid (fun wx => suAllowed_any V (by omega) A0 B0 pat rep ev hp hr wx)
    have HWY := Lib.hid hways
    have HG := Lib.hid (And.intro hgs.2.1 hgs.2.2)
    have HVE := Lib.hid hV
    have hS := hgs.1
    clear hways hgs hV hv hg
    cases hm : mayS V A0 B0 pat rep with
    | false =>
      have HR : Hid (subS S l y A0 B0 pat rep ev = ((⟨0, [], [], [], []⟩, 0), 2)) := by
        rcases HWY.out with h | h | h | ⟨a, b, V', P, e1, e2, _, H⟩
        · exact h.2
        · exact absurd (Or.inr hm) h.1
        · exact absurd (Or.inr hm) h.1
        · exfalso
          have h1 := H.ab; have h2 := H.bc; have h3 := H.m; have h4 := H.r; have h5 := H.nl
          rw [e1, e2] at hm
          rw [H.v, HVE.out] at h2
          unfold mayS at hm
          rw [decide_eq_true ⟨by omega, by omega, by omega, by omega, by omega⟩, decide_eq_true h5] at hm
          cases hm
      rw [hm] at HMA
      go_enter Tryd.func11, Tryd.ntmps11
      go_upto_region 1 with fail
      generalize ((w.alloc (.cells #[.string ⟨S.toArray⟩, .slice A l.length c] 24)).alloc (.cells #[.int .i64 A0, .int .i64 B0, .string ⟨pat.toArray⟩, .string ⟨rep.toArray⟩, .bool ev] 28)).alloc (.cells #[.int .i64 0, .string ⟨#[]⟩, .slice none 0 0, .string ⟨#[]⟩, .slice none 0 0] 32) = wx at *
      go_wp2_with (first
        | (go_at_call 21; refine (HVW.out _ K.out.now.2).mono ?_; rintro e w2 ⟨rfl, bb⟩; replace K := Lib.hid (K.out.step bb); clear bb y0 y1 x0 x1 x2 x3 x4 u0 u1 u2 u3 u4 u5 u6 u7 u8 u9; obtain ⟨y0, y1⟩ := txt_cells K.out.now.1.1; obtain ⟨x0, x1, x2, x3, x4⟩ := su_job K.out.now.1.2.1; obtain ⟨⟨u0, u1, u2, u3, u4⟩, u5, u6, u7, u8, u9⟩ := ed_var K.out.now.1.2.2.1)
        | (go_at_call 24; refine (HMA.out _).mono ?_; rintro e w3 ⟨rfl, bb⟩; replace K := Lib.hid (K.out.step bb); clear bb y0 y1 x0 x1 x2 x3 x4 u0 u1 u2 u3 u4 u5 u6 u7 u8 u9; obtain ⟨y0, y1⟩ := txt_cells K.out.now.1.1; obtain ⟨x0, x1, x2, x3, x4⟩ := su_job K.out.now.1.2.1; obtain ⟨⟨u0, u1, u2, u3, u4⟩, u5, u6, u7, u8, u9⟩ := ed_var K.out.now.1.2.2.1))
      have E := givesE_zero K.out.now.1.2.2.2 K.out.now.1.2.2.1 (by omega) 2
      refine ret_edit3 rfl _ _ (w.heap.size + 1 + 1) _ _ _ _ _ rfl E.1 rfl ?_
      rw [HR.out]
      obtain ⟨_, _, _, _, _, _, _, hbz⟩ := E.2
      exact givesSu_zero hbz
    | true =>
      have hms := hm
      rw [hm] at HMA
      unfold mayS at hms
      rw [Bool.and_eq_true, decide_eq_true_iff, decide_eq_true_iff] at hms
      obtain ⟨⟨m1, m2, m3, m4, m5⟩, m6⟩ := hms
      obtain ⟨a, rfl⟩ : ∃ a : Nat, A0 = (a : Int) := ⟨A0.toNat, by omega⟩
      obtain ⟨b, rfl⟩ : ∃ b : Nat, B0 = (b : Int) := ⟨B0.toNat, by omega⟩
      have hab : a ≤ b := by omega
      have hbc : b < countL V := by omega
      have h10 := nl_not m6
      have hways := HWY.out
      rw [Int.toNat_natCast, Int.toNat_natCast, hm] at hways
      have HFA := Lib.hid (fin_all (y := y) (every := ev) (pat := pat) HG.out.2 hvl h10 hab hbc)
      have hapl := placesL_apart (S := S) (V := V) (L := bytesOf l) (y := y) (pat := pat) (every := ev) (A := a) (b - a) (by omega)
      rw [show b - a + 1 = b + 1 - a by omega, show a + (b - a) = b by omega] at hapl
      obtain ⟨P, hP⟩ : ∃ P, placesL S V (bytesOf l) y pat ev a (b + 1 - a) = P := ⟨_, rfl⟩
      rw [hP] at hways HFA hapl
      have HPE := Lib.hid hP
      replace HWY := Lib.hid hways
      have HAP := Lib.hid hapl
      have hpl : P.length ≤ 4096 := by
        have h1 := hapl.le
        have h2 := end_le hbc
        have h3 : P.length ≤ P.length * pat.length := Nat.le_mul_of_pos_right _ m4
        omega
      have hql : (P.map (· - begL V a)).length = P.length := List.length_map _
      have HB1 := Lib.hid (fun wx => linBounds_any V (by omega) (a : Int) wx)
      have HB2 := Lib.hid (fun wx => linBounds_any V (by omega) (b : Int) wx)
      rw [boundsL_nat (by omega)] at HB1 HB2
      have hft : begL V a ≤ endL V b := Nat.le_trans (beg_mono hab hbc) (beg_end hbc)
      have htV := end_le hbc
      have HLB := Lib.hid (fun wx hx => suLabels_any A c S l (by omega) HG.out.1 wx hx)
      have hmn := mul_near (p := P.length) (m := pat.length) (r := rep.length) (by omega) hp hr
      have HXL := Lib.hid (bytesOf_mem HF.out)
      have HMS : Hid (∀ (AL : Option Addr) (cL : Nat) (wx : World), Row wx wx.heap.size AL ((bytesOf l).map u64v) → Calls Tryd.prog 28 #[.string ⟨S.toArray⟩, .slice AL (bytesOf l).length cL, .int .u64 (y : Nat)] wx fun e w' => e = .returned (.string ⟨(maskS S (bytesOf l) y).toArray⟩) ∧ Below wx.heap.size wx w') := fun AL cL wx hx => suMasked_any AL cL wx.heap.size S (bytesOf l) y hy HXL.out HG.out.2 (by omega) wx (Nat.le_refl _) hx
      have hml : (maskS S (bytesOf l) y).length = S.length := mask_len HG.out.2
      have HFN : Hid (∀ wx, MaxW wx → Calls Tryd.prog 27 #[.string ((⟨V.toArray⟩ : ByteArray).extract (begL V a) (endL V b)), .string ((⟨(maskS S (bytesOf l) y).toArray⟩ : ByteArray).extract (begL V a) (endL V b)), .agg #[.int .i64 (a : Nat), .int .i64 (b : Nat), .string ⟨pat.toArray⟩, .string ⟨rep.toArray⟩, .bool ev]] wx fun e w' => ∃ A' c', e = .returned (.slice A' (P.map (· - begL V a)).length c') ∧ w'.ownsRow wx.heap.size 3 1 (.slice A' (P.map (· - begL V a)).length c') (P.map (· - begL V a)).length ((P.map (· - begL V a)).map intn) ∧ Below wx.heap.size wx w') := fun wx hx => by
        have := suFind_any ((V.drop (begL V a)).take (endL V b - begL V a)) (((maskS S (bytesOf l) y).drop (begL V a)).take (endL V b - begL V a)) (by rw [List.length_take, List.length_drop]; omega) (by rw [List.length_take, List.length_drop, List.length_take, List.length_drop]; omega) (a : Nat) (b : Nat) pat rep ev m4 hp (tot_split _) wx hx
        rw [HFA.out, ← text_cut, ← text_cut] at this
        exact this
      clear hways hP hm m1 m2 m3 hapl
      have q0 : (0 : Int) ≤ (begL V a : Int) := by omega
      have q1 : (begL V a : Int) ≤ (endL V b : Int) := by omega
      have q2 : (endL V b : Int) ≤ (V.length : Int) := by omega
      have q3 : (endL V b : Int) ≤ ((maskS S (bytesOf l) y).length : Int) := by omega
      have HVL := Lib.hid hvl
      have HML := Lib.hid hml
      clear hvl hml
      generalize hMM : maskS S (bytesOf l) y = MM at *
      clear hMM
      have HQL := Lib.hid hql
      clear hql
      generalize hQE : P.map (· - begL V a) = Q at *
      have HQE := Lib.hid hQE
      clear hQE
      by_cases h0 : P = []
      · have hl1 : ((Q.length : Int) == 0) = true := by rw [HQL.out, h0]; rfl
        have HR : Hid (subS S l y (a : Int) (b : Int) pat rep ev = ((⟨0, [], [], [], []⟩, 0), 6)) := by
          rcases HWY.out with h | h | h | ⟨a', b', V', P', e1, e2, e3, H⟩
          · exact absurd h.1 (by simp)
          · exact h.2.2
          · exact absurd h0 h.2.1
          · exfalso
            obtain rfl : a = a' := by omega
            obtain rfl : b = b' := by omega
            have e4 := H.p
            rw [H.v, HVE.out, HPE.out] at e4
            subst e4
            exact e3 h0
        clear h0
        go_enter Tryd.func11, Tryd.ntmps11
        go_upto_region 1 with fail
        generalize ((w.alloc (.cells #[.string ⟨S.toArray⟩, .slice A l.length c] 24)).alloc (.cells #[.int .i64 (a : Nat), .int .i64 (b : Nat), .string ⟨pat.toArray⟩, .string ⟨rep.toArray⟩, .bool ev] 28)).alloc (.cells #[.int .i64 0, .string ⟨#[]⟩, .slice none 0 0, .string ⟨#[]⟩, .slice none 0 0] 32) = wx at *
        go_upto_region 4 with (first
          | (go_at_call 21; refine (HVW.out _ K.out.now.2).mono ?_; rintro e w2 ⟨rfl, bb⟩; replace K := Lib.hid (K.out.step bb); clear bb y0 y1 x0 x1 x2 x3 x4 u0 u1 u2 u3 u4 u5 u6 u7 u8 u9; obtain ⟨y0, y1⟩ := txt_cells K.out.now.1.1; obtain ⟨x0, x1, x2, x3, x4⟩ := su_job K.out.now.1.2.1; obtain ⟨⟨u0, u1, u2, u3, u4⟩, u5, u6, u7, u8, u9⟩ := ed_var K.out.now.1.2.2.1)
          | (go_at_call 24; refine (HMA.out _).mono ?_; rintro e w3 ⟨rfl, bb⟩; replace K := Lib.hid (K.out.step bb); clear bb y0 y1 x0 x1 x2 x3 x4 u0 u1 u2 u3 u4 u5 u6 u7 u8 u9; obtain ⟨y0, y1⟩ := txt_cells K.out.now.1.1; obtain ⟨x0, x1, x2, x3, x4⟩ := su_job K.out.now.1.2.1; obtain ⟨⟨u0, u1, u2, u3, u4⟩, u5, u6, u7, u8, u9⟩ := ed_var K.out.now.1.2.2.1))
        go_upto_region 5 with (go_at_call 25; refine (HB1.out _).mono ?_; rintro e w5 ⟨rfl, bb⟩; replace K := Lib.hid (K.out.step bb); clear bb y0 y1 x0 x1 x2 x3 x4 u0 u1 u2 u3 u4 u5 u6 u7 u8 u9; obtain ⟨y0, y1⟩ := txt_cells K.out.now.1.1; obtain ⟨x0, x1, x2, x3, x4⟩ := su_job K.out.now.1.2.1; obtain ⟨⟨u0, u1, u2, u3, u4⟩, u5, u6, u7, u8, u9⟩ := ed_var K.out.now.1.2.2.1)
        go_upto_region 6 with (go_at_call 25; refine (HB2.out _).mono ?_; rintro e w6 ⟨rfl, bb⟩; replace K := Lib.hid (K.out.step bb); clear bb y0 y1 x0 x1 x2 x3 x4 u0 u1 u2 u3 u4 u5 u6 u7 u8 u9; obtain ⟨y0, y1⟩ := txt_cells K.out.now.1.1; obtain ⟨x0, x1, x2, x3, x4⟩ := su_job K.out.now.1.2.1; obtain ⟨⟨u0, u1, u2, u3, u4⟩, u5, u6, u7, u8, u9⟩ := ed_var K.out.now.1.2.2.1)
        go_upto_region 7 with (go_at_call 26; refine (HLB.out _ K.out.now.2).mono ?_; rintro e w7 ⟨AL, cL, rfl, own7, bb⟩; have hcL := su_cap own7; have RL : Grow w7 (fun w' => Row w' w7.heap.size AL ((bytesOf l).map u64v)) := fun w' hb' => (Row.of_own own7).below hb'; replace K := Lib.hid ((K.out.step bb).and RL); clear own7 RL; clear bb y0 y1 x0 x1 x2 x3 x4 u0 u1 u2 u3 u4 u5 u6 u7 u8 u9; obtain ⟨y0, y1⟩ := txt_cells K.out.now.1.1.1; obtain ⟨x0, x1, x2, x3, x4⟩ := su_job K.out.now.1.1.2.1; obtain ⟨⟨u0, u1, u2, u3, u4⟩, u5, u6, u7, u8, u9⟩ := ed_var K.out.now.1.1.2.2.1)
        have hb0 : Below w7.heap.size w7 w7 := Below.refl _ _
        have HM2 : Hid (∀ wx, Below w7.heap.size w7 wx → Calls Tryd.prog 28 #[.string ⟨S.toArray⟩, .slice AL (bytesOf l).length cL, .int .u64 (y : Nat)] wx fun e w' => e = .returned (.string ⟨MM.toArray⟩) ∧ Below w7.heap.size w7 w') := fun wx hb => (HMS.out AL cL wx ((K.out _ hb).2.more hb.size)).mono fun e w' ⟨he, h2⟩ => ⟨he, hb.trans (h2.mono hb.size)⟩
        have HF2 : Hid (∀ wx, Below w7.heap.size w7 wx → Calls Tryd.prog 27 #[.string ((⟨V.toArray⟩ : ByteArray).extract (begL V a) (endL V b)), .string ((⟨MM.toArray⟩ : ByteArray).extract (begL V a) (endL V b)), .agg #[.int .i64 (a : Nat), .int .i64 (b : Nat), .string ⟨pat.toArray⟩, .string ⟨rep.toArray⟩, .bool ev]] wx fun e w' => ∃ A' c', e = .returned (.slice A' Q.length c') ∧ Hid (w'.ownsRow w7.heap.size 3 1 (.slice A' Q.length c') Q.length (Q.map intn)) ∧ Below w7.heap.size w7 w') := fun wx hb => (HFN.out wx (HMX.out.below (K.out _ hb).1.1.2.2.2)).mono fun e w' ⟨A', c', he, ho, h2⟩ => ⟨A', c', he, own_base ho hb.size, hb.trans (h2.mono hb.size)⟩
        have HCE : Hid (∀ wx, Below w7.heap.size w7 wx → (wx.cell? ⟨w.heap.size, 0, none⟩ = some (.string ⟨S.toArray⟩)) ∧ wx.cell? ⟨w.heap.size + 1, 0, none⟩ = some (.int .i64 (a : Nat)) ∧ wx.cell? ⟨w.heap.size + 1, 1, none⟩ = some (.int .i64 (b : Nat)) ∧ wx.cell? ⟨w.heap.size + 1, 2, none⟩ = some (.string ⟨pat.toArray⟩) ∧ wx.cell? ⟨w.heap.size + 1, 3, none⟩ = some (.string ⟨rep.toArray⟩) ∧ wx.cell? ⟨w.heap.size + 1, 4, none⟩ = some (.bool ev)) := fun wx hb => ⟨(txt_cells (K.out _ hb).1.1.1).1, su_job (K.out _ hb).1.1.2.1⟩
        go_region_held3 (fun wx => (wx.cell? ⟨w.heap.size, 0, none⟩ = some (.string ⟨S.toArray⟩)) ∧ wx.cell? ⟨w.heap.size + 1, 0, none⟩ = some (.int .i64 (a : Nat)) ∧ wx.cell? ⟨w.heap.size + 1, 1, none⟩ = some (.int .i64 (b : Nat)) ∧ wx.cell? ⟨w.heap.size + 1, 2, none⟩ = some (.string ⟨pat.toArray⟩) ∧ wx.cell? ⟨w.heap.size + 1, 3, none⟩ = some (.string ⟨rep.toArray⟩) ∧ wx.cell? ⟨w.heap.size + 1, 4, none⟩ = some (.bool ev))
          ((refine HCE.out _ ?_; first | assumption | exact belowE_dr hb0))
          (first
            | (go_at_call 28; refine (HM2.out _ ?_).mono ?_; (first | assumption | exact belowE_dr hb0); rintro e w8 ⟨rfl, hbx⟩)
            | (go_at_call 27; refine (HF2.out _ ?_).mono ?_; (first | assumption | exact belowE_dr hb0); rintro e w9 ⟨AQ, cQ, rfl, ownQ, hby⟩))
        have hw79 := hby.size; replace K := Lib.hid ((K.out.step hby).and (fun w' hb' => (Row.of_own ownQ.out).below hb')); clear HM2 HF2 HCE hbx ownQ hb0 y0 y1 x0 x1 x2 x3 x4 u0 u1 u2 u3 u4 u5 u6 u7 u8 u9; obtain ⟨y0, y1⟩ := txt_cells K.out.now.1.1.1.1; obtain ⟨x0, x1, x2, x3, x4⟩ := su_job K.out.now.1.1.1.2.1; obtain ⟨⟨u0, u1, u2, u3, u4⟩, u5, u6, u7, u8, u9⟩ := ed_var K.out.now.1.1.1.2.2.1
        go_wp2_with fail
        have E := givesE_zero K.out.now.1.1.1.2.2.2 K.out.now.1.1.1.2.2.1 (by omega) 6
        refine ret_edit3 rfl _ _ (w.heap.size + 1 + 1) _ _ _ _ _ rfl E.1 rfl ?_
        rw [HR.out]
        obtain ⟨_, _, _, _, _, _, _, hbz⟩ := E.2
        exact givesSu_zero hbz
      · have hl1 : ((Q.length : Int) == 0) = false := by
          rw [beq_eq_false_iff_ne, HQL.out]
          have : P.length ≠ 0 := fun e => h0 (List.eq_nil_of_length_eq_zero e)
          omega
        rw [← HQL.out] at hmn
        by_cases hbig : (S.length : Int) + (Q.length : Int) * ((rep.length : Int) - (pat.length : Int)) > 4096
        · have hbd : decide ((S.length : Int) + (Q.length : Int) * ((rep.length : Int) - (pat.length : Int)) > 4096) = true := decide_eq_true hbig
          have hw1 : IntKind.i64.wrap ((Q.length : Int) * ((rep.length : Int) - (pat.length : Int))) = (Q.length : Int) * ((rep.length : Int) - (pat.length : Int)) := wrapS_near (by omega) (by omega)
          have hw2 : IntKind.i64.wrap ((S.length : Int) + (Q.length : Int) * ((rep.length : Int) - (pat.length : Int))) = (S.length : Int) + (Q.length : Int) * ((rep.length : Int) - (pat.length : Int)) := wrapS_near (by omega) (by omega)
          have HR : Hid (subS S l y (a : Int) (b : Int) pat rep ev = ((⟨0, [], [], [], []⟩, 0), 3)) := by
            rw [HQL.out] at hbig
            rcases HWY.out with h | h | h | ⟨a', b', V', P', e1, e2, e3, H⟩
            · exact absurd h.1 (by simp)
            · exact absurd h.2.1 h0
            · exact h.2.2.2
            · exfalso
              obtain rfl : a = a' := by omega
              obtain rfl : b = b' := by omega
              have e4 := H.p
              rw [H.v, HVE.out, HPE.out] at e4
              subst e4
              have := H.fit; omega
          go_enter Tryd.func11, Tryd.ntmps11
          go_upto_region 1 with fail
          generalize ((w.alloc (.cells #[.string ⟨S.toArray⟩, .slice A l.length c] 24)).alloc (.cells #[.int .i64 (a : Nat), .int .i64 (b : Nat), .string ⟨pat.toArray⟩, .string ⟨rep.toArray⟩, .bool ev] 28)).alloc (.cells #[.int .i64 0, .string ⟨#[]⟩, .slice none 0 0, .string ⟨#[]⟩, .slice none 0 0] 32) = wx at *
          go_upto_region 4 with (first
            | (go_at_call 21; refine (HVW.out _ K.out.now.2).mono ?_; rintro e w2 ⟨rfl, bb⟩; replace K := Lib.hid (K.out.step bb); clear bb y0 y1 x0 x1 x2 x3 x4 u0 u1 u2 u3 u4 u5 u6 u7 u8 u9; obtain ⟨y0, y1⟩ := txt_cells K.out.now.1.1; obtain ⟨x0, x1, x2, x3, x4⟩ := su_job K.out.now.1.2.1; obtain ⟨⟨u0, u1, u2, u3, u4⟩, u5, u6, u7, u8, u9⟩ := ed_var K.out.now.1.2.2.1)
            | (go_at_call 24; refine (HMA.out _).mono ?_; rintro e w3 ⟨rfl, bb⟩; replace K := Lib.hid (K.out.step bb); clear bb y0 y1 x0 x1 x2 x3 x4 u0 u1 u2 u3 u4 u5 u6 u7 u8 u9; obtain ⟨y0, y1⟩ := txt_cells K.out.now.1.1; obtain ⟨x0, x1, x2, x3, x4⟩ := su_job K.out.now.1.2.1; obtain ⟨⟨u0, u1, u2, u3, u4⟩, u5, u6, u7, u8, u9⟩ := ed_var K.out.now.1.2.2.1))
          go_upto_region 5 with (go_at_call 25; refine (HB1.out _).mono ?_; rintro e w5 ⟨rfl, bb⟩; replace K := Lib.hid (K.out.step bb); clear bb y0 y1 x0 x1 x2 x3 x4 u0 u1 u2 u3 u4 u5 u6 u7 u8 u9; obtain ⟨y0, y1⟩ := txt_cells K.out.now.1.1; obtain ⟨x0, x1, x2, x3, x4⟩ := su_job K.out.now.1.2.1; obtain ⟨⟨u0, u1, u2, u3, u4⟩, u5, u6, u7, u8, u9⟩ := ed_var K.out.now.1.2.2.1)
          go_upto_region 6 with (go_at_call 25; refine (HB2.out _).mono ?_; rintro e w6 ⟨rfl, bb⟩; replace K := Lib.hid (K.out.step bb); clear bb y0 y1 x0 x1 x2 x3 x4 u0 u1 u2 u3 u4 u5 u6 u7 u8 u9; obtain ⟨y0, y1⟩ := txt_cells K.out.now.1.1; obtain ⟨x0, x1, x2, x3, x4⟩ := su_job K.out.now.1.2.1; obtain ⟨⟨u0, u1, u2, u3, u4⟩, u5, u6, u7, u8, u9⟩ := ed_var K.out.now.1.2.2.1)
          go_upto_region 7 with (go_at_call 26; refine (HLB.out _ K.out.now.2).mono ?_; rintro e w7 ⟨AL, cL, rfl, own7, bb⟩; have hcL := su_cap own7; have RL : Grow w7 (fun w' => Row w' w7.heap.size AL ((bytesOf l).map u64v)) := fun w' hb' => (Row.of_own own7).below hb'; replace K := Lib.hid ((K.out.step bb).and RL); clear own7 RL; clear bb y0 y1 x0 x1 x2 x3 x4 u0 u1 u2 u3 u4 u5 u6 u7 u8 u9; obtain ⟨y0, y1⟩ := txt_cells K.out.now.1.1.1; obtain ⟨x0, x1, x2, x3, x4⟩ := su_job K.out.now.1.1.2.1; obtain ⟨⟨u0, u1, u2, u3, u4⟩, u5, u6, u7, u8, u9⟩ := ed_var K.out.now.1.1.2.2.1)
          have hb0 : Below w7.heap.size w7 w7 := Below.refl _ _
          have HM2 : Hid (∀ wx, Below w7.heap.size w7 wx → Calls Tryd.prog 28 #[.string ⟨S.toArray⟩, .slice AL (bytesOf l).length cL, .int .u64 (y : Nat)] wx fun e w' => e = .returned (.string ⟨MM.toArray⟩) ∧ Below w7.heap.size w7 w') := fun wx hb => (HMS.out AL cL wx ((K.out _ hb).2.more hb.size)).mono fun e w' ⟨he, h2⟩ => ⟨he, hb.trans (h2.mono hb.size)⟩
          have HF2 : Hid (∀ wx, Below w7.heap.size w7 wx → Calls Tryd.prog 27 #[.string ((⟨V.toArray⟩ : ByteArray).extract (begL V a) (endL V b)), .string ((⟨MM.toArray⟩ : ByteArray).extract (begL V a) (endL V b)), .agg #[.int .i64 (a : Nat), .int .i64 (b : Nat), .string ⟨pat.toArray⟩, .string ⟨rep.toArray⟩, .bool ev]] wx fun e w' => ∃ A' c', e = .returned (.slice A' Q.length c') ∧ Hid (w'.ownsRow w7.heap.size 3 1 (.slice A' Q.length c') Q.length (Q.map intn)) ∧ Below w7.heap.size w7 w') := fun wx hb => (HFN.out wx (HMX.out.below (K.out _ hb).1.1.2.2.2)).mono fun e w' ⟨A', c', he, ho, h2⟩ => ⟨A', c', he, own_base ho hb.size, hb.trans (h2.mono hb.size)⟩
          have HCE : Hid (∀ wx, Below w7.heap.size w7 wx → (wx.cell? ⟨w.heap.size, 0, none⟩ = some (.string ⟨S.toArray⟩)) ∧ wx.cell? ⟨w.heap.size + 1, 0, none⟩ = some (.int .i64 (a : Nat)) ∧ wx.cell? ⟨w.heap.size + 1, 1, none⟩ = some (.int .i64 (b : Nat)) ∧ wx.cell? ⟨w.heap.size + 1, 2, none⟩ = some (.string ⟨pat.toArray⟩) ∧ wx.cell? ⟨w.heap.size + 1, 3, none⟩ = some (.string ⟨rep.toArray⟩) ∧ wx.cell? ⟨w.heap.size + 1, 4, none⟩ = some (.bool ev)) := fun wx hb => ⟨(txt_cells (K.out _ hb).1.1.1).1, su_job (K.out _ hb).1.1.2.1⟩
          go_region_held3 (fun wx => (wx.cell? ⟨w.heap.size, 0, none⟩ = some (.string ⟨S.toArray⟩)) ∧ wx.cell? ⟨w.heap.size + 1, 0, none⟩ = some (.int .i64 (a : Nat)) ∧ wx.cell? ⟨w.heap.size + 1, 1, none⟩ = some (.int .i64 (b : Nat)) ∧ wx.cell? ⟨w.heap.size + 1, 2, none⟩ = some (.string ⟨pat.toArray⟩) ∧ wx.cell? ⟨w.heap.size + 1, 3, none⟩ = some (.string ⟨rep.toArray⟩) ∧ wx.cell? ⟨w.heap.size + 1, 4, none⟩ = some (.bool ev))
            ((refine HCE.out _ ?_; first | assumption | exact belowE_dr hb0))
            (first
              | (go_at_call 28; refine (HM2.out _ ?_).mono ?_; (first | assumption | exact belowE_dr hb0); rintro e w8 ⟨rfl, hbx⟩)
              | (go_at_call 27; refine (HF2.out _ ?_).mono ?_; (first | assumption | exact belowE_dr hb0); rintro e w9 ⟨AQ, cQ, rfl, ownQ, hby⟩))
          have hw79 := hby.size; replace K := Lib.hid ((K.out.step hby).and (fun w' hb' => (Row.of_own ownQ.out).below hb')); clear HM2 HF2 HCE hbx ownQ hb0 y0 y1 x0 x1 x2 x3 x4 u0 u1 u2 u3 u4 u5 u6 u7 u8 u9; obtain ⟨y0, y1⟩ := txt_cells K.out.now.1.1.1.1; obtain ⟨x0, x1, x2, x3, x4⟩ := su_job K.out.now.1.1.1.2.1; obtain ⟨⟨u0, u1, u2, u3, u4⟩, u5, u6, u7, u8, u9⟩ := ed_var K.out.now.1.1.1.2.2.1
          go_wp2_with fail
          have E := givesE_zero K.out.now.1.1.1.2.2.2 K.out.now.1.1.1.2.2.1 (by omega) 3
          refine ret_edit3 rfl _ _ (w.heap.size + 1 + 1) _ _ _ _ _ rfl E.1 rfl ?_
          rw [HR.out]
          obtain ⟨_, _, _, _, _, _, _, hbz⟩ := E.2
          exact givesSu_zero hbz
        · have hbd : decide ((S.length : Int) + (Q.length : Int) * ((rep.length : Int) - (pat.length : Int)) > 4096) = false := decide_eq_false hbig
          have hw1 : IntKind.i64.wrap ((Q.length : Int) * ((rep.length : Int) - (pat.length : Int))) = (Q.length : Int) * ((rep.length : Int) - (pat.length : Int)) := wrapS_near (by omega) (by omega)
          have hw2 : IntKind.i64.wrap ((S.length : Int) + (Q.length : Int) * ((rep.length : Int) - (pat.length : Int))) = (S.length : Int) + (Q.length : Int) * ((rep.length : Int) - (pat.length : Int)) := wrapS_near (by omega) (by omega)
          have HH : Hid (SubP S l y a b pat rep ev V P) := by
            rw [HQL.out] at hbig
            rcases HWY.out with h | h | h | ⟨a', b', V', P', e1, e2, e3, H⟩
            · exact absurd h.1 (by simp)
            · exact absurd h.2.1 h0
            · exact absurd h.2.2.1 hbig
            · obtain rfl : a = a' := by omega
              obtain rfl : b = b' := by omega
              have e4 := H.p
              have e5 := H.v
              rw [HVE.out] at e5
              subst e5
              rw [HPE.out] at e4
              subst e4
              exact H
          have HR := Lib.hid (subS_ok HH.out h0)
          have HMD := Lib.hid HH.out.made
          have hgX := goodT_size HH.out.goodX
          have hle := HH.out.le
          have hlX := HH.out.cutLen S rfl
          have hlL := HH.out.cutLen (bytesOf l) HH.out.lab
          have hne : begL V a < endL V b := by
            have h1 := HAP.out.le
            have h2 : P.length ≠ 0 := fun e => h0 (List.eq_nil_of_length_eq_zero e)
            have h3 : P.length * 1 ≤ P.length * pat.length := Nat.mul_le_mul_left _ m4
            omega
          have HAQ : Hid (Apart pat.length 0 (endL V b - begL V a) Q) := by
            have := apart_shift HAP.out (F := begL V a) (Nat.le_refl _)
            rw [Nat.sub_self, HQE.out] at this
            exact this
          have hcu : cutOf S l (begL V a : Nat) (endL V b : Nat) = (((S.drop (begL V a)).take (endL V b - begL V a), pack (((bytesOf l).drop (begL V a)).take (endL V b - begL V a))), 0) := by
            have hw : withinT S l (begL V a : Nat) (endL V b : Nat) = true := by
              unfold withinT
              rw [HH.out.g, decide_eq_true (by omega : (0 : Int) ≤ (begL V a : Nat)), decide_eq_true (by omega : ((begL V a : Nat) : Int) ≤ (endL V b : Nat)), decide_eq_true (by omega : ((endL V b : Nat) : Int) ≤ (S.length : Int))]
              rfl
            unfold cutOf
            rw [if_pos hw]
            unfold cut
            rw [Int.toNat_natCast, show ((endL V b : Nat) : Int) - ((begL V a : Nat) : Int) = ((endL V b - begL V a : Nat) : Int) by omega, Int.toNat_natCast]
          have HOC := Lib.hid (okT_cut (S := S) HF.out (begL V a : Nat) (endL V b : Nat))
          rw [hcu] at HOC
          rw [putsL_map, putsL_map (((bytesOf l).drop (begL V a)).take (endL V b - begL V a)), HQE.out] at HR HMD hgX
          have HLX : Hid (∀ x ∈ ((bytesOf l).drop (begL V a)).take (endL V b - begL V a), x < 18446744073709551616) := fun v hv => HXL.out v (List.mem_of_mem_drop (List.mem_of_mem_take hv))
          have HL9 : Hid (∀ v ∈ putsL (((bytesOf l).drop (begL V a)).take (endL V b - begL V a)) 0 pat.length (List.replicate rep.length y) Q, v < 18446744073709551616) := fun v hv => by
            rcases puts_mem Q _ 0 v hv with h | h
            · exact HLX.out v h
            · rw [(List.mem_replicate.1 h).2]; exact hy
          have HRE : Hid (∀ (AL AQ : Option Addr) (cL cQ : Nat) (wx : World), (bytesOf l).length ≤ cL → Row wx wx.heap.size AL ((bytesOf l).map u64v) → Row wx wx.heap.size AQ (Q.map intn) → Calls Tryd.prog 29 #[.string ((⟨S.toArray⟩ : ByteArray).extract (begL V a) (endL V b)), .slice (AL.map fun x => x.add (begL V a)) (endL V b - begL V a) (cL - begL V a), .slice AQ Q.length cQ, .int .u64 (y : Nat), .agg #[.int .i64 (a : Nat), .int .i64 (b : Nat), .string ⟨pat.toArray⟩, .string ⟨rep.toArray⟩, .bool ev]] wx (GivesT wx ((putsL ((S.drop (begL V a)).take (endL V b - begL V a)) 0 pat.length rep Q, pack (putsL (((bytesOf l).drop (begL V a)).take (endL V b - begL V a)) 0 pat.length (List.replicate rep.length y) Q)), 0))) := fun AL AQ cL cQ wx hc h1 h2 => by
            have hll := HG.out.2
            have := suReplaced_any ((S.drop (begL V a)).take (endL V b - begL V a)) (((bytesOf l).drop (begL V a)).take (endL V b - begL V a)) Q (AL.map fun x => x.add (begL V a)) AQ (cL - begL V a) cQ y hy (a : Nat) (b : Nat) pat rep ev (by omega) (by rw [hlX, hlL]) (by omega) HLX.out (by rw [hlX]; exact HAQ.out) (by rw [HQL.out]; omega) hp hr hgX.1 wx (by rw [List.map_take, List.map_drop]; exact su_cut h1 _ _) h2
            rw [hlL, ← text_cut] at this
            exact this
          have HO9 : Hid (OkT ((putsL ((S.drop (begL V a)).take (endL V b - begL V a)) 0 pat.length rep Q, pack (putsL (((bytesOf l).drop (begL V a)).take (endL V b - begL V a)) 0 pat.length (List.replicate rep.length y) Q)), 0)) := okT_pack hgX.1 HL9.out (by rw [bytesOf_pack] at hgX; rw [hgX.2.2]; exact hgX.1)
          have hpk := pack_len (putsL (((bytesOf l).drop (begL V a)).take (endL V b - begL V a)) 0 pat.length (List.replicate rep.length y) Q)
          have h9l : (putsL (((bytesOf l).drop (begL V a)).take (endL V b - begL V a)) 0 pat.length (List.replicate rep.length y) Q).length ≤ 4096 := by rw [bytesOf_pack] at hgX; rw [hgX.2.2]; exact hgX.1
          rw [← HQL.out] at HR
          have hf5 : begL V a ≤ 5000 ∧ endL V b ≤ 5000 := by have := HVL.out; omega
          have hts : endL V b ≤ (bytesOf l).length := by rw [HG.out.2]; exact hle.2
          have q4 : (endL V b : Int) ≤ (S.length : Int) := by have := hle.2; omega
          clear hcu hgX hlX hlL HWY HPE HFA HLX HL9 hle
          generalize (S.drop (begL V a)).take (endL V b - begL V a) = X0 at *
          generalize ((bytesOf l).drop (begL V a)).take (endL V b - begL V a) = L0 at *
          generalize putsL X0 0 pat.length rep Q = X9 at *
          generalize putsL L0 0 pat.length (List.replicate rep.length y) Q = L9 at *
          go_enter Tryd.func11, Tryd.ntmps11
          go_upto_region 1 with fail
          generalize ((w.alloc (.cells #[.string ⟨S.toArray⟩, .slice A l.length c] 24)).alloc (.cells #[.int .i64 (a : Nat), .int .i64 (b : Nat), .string ⟨pat.toArray⟩, .string ⟨rep.toArray⟩, .bool ev] 28)).alloc (.cells #[.int .i64 0, .string ⟨#[]⟩, .slice none 0 0, .string ⟨#[]⟩, .slice none 0 0] 32) = wx at *
          go_upto_region 4 with (first
            | (go_at_call 21; refine (HVW.out _ K.out.now.2).mono ?_; rintro e w2 ⟨rfl, bb⟩; replace K := Lib.hid (K.out.step bb); clear bb y0 y1 x0 x1 x2 x3 x4 u0 u1 u2 u3 u4 u5 u6 u7 u8 u9; obtain ⟨y0, y1⟩ := txt_cells K.out.now.1.1; obtain ⟨x0, x1, x2, x3, x4⟩ := su_job K.out.now.1.2.1; obtain ⟨⟨u0, u1, u2, u3, u4⟩, u5, u6, u7, u8, u9⟩ := ed_var K.out.now.1.2.2.1)
            | (go_at_call 24; refine (HMA.out _).mono ?_; rintro e w3 ⟨rfl, bb⟩; replace K := Lib.hid (K.out.step bb); clear bb y0 y1 x0 x1 x2 x3 x4 u0 u1 u2 u3 u4 u5 u6 u7 u8 u9; obtain ⟨y0, y1⟩ := txt_cells K.out.now.1.1; obtain ⟨x0, x1, x2, x3, x4⟩ := su_job K.out.now.1.2.1; obtain ⟨⟨u0, u1, u2, u3, u4⟩, u5, u6, u7, u8, u9⟩ := ed_var K.out.now.1.2.2.1))
          go_upto_region 5 with (go_at_call 25; refine (HB1.out _).mono ?_; rintro e w5 ⟨rfl, bb⟩; replace K := Lib.hid (K.out.step bb); clear bb y0 y1 x0 x1 x2 x3 x4 u0 u1 u2 u3 u4 u5 u6 u7 u8 u9; obtain ⟨y0, y1⟩ := txt_cells K.out.now.1.1; obtain ⟨x0, x1, x2, x3, x4⟩ := su_job K.out.now.1.2.1; obtain ⟨⟨u0, u1, u2, u3, u4⟩, u5, u6, u7, u8, u9⟩ := ed_var K.out.now.1.2.2.1)
          go_upto_region 6 with (go_at_call 25; refine (HB2.out _).mono ?_; rintro e w6 ⟨rfl, bb⟩; replace K := Lib.hid (K.out.step bb); clear bb y0 y1 x0 x1 x2 x3 x4 u0 u1 u2 u3 u4 u5 u6 u7 u8 u9; obtain ⟨y0, y1⟩ := txt_cells K.out.now.1.1; obtain ⟨x0, x1, x2, x3, x4⟩ := su_job K.out.now.1.2.1; obtain ⟨⟨u0, u1, u2, u3, u4⟩, u5, u6, u7, u8, u9⟩ := ed_var K.out.now.1.2.2.1)
          go_upto_region 7 with (go_at_call 26; refine (HLB.out _ K.out.now.2).mono ?_; rintro e w7 ⟨AL, cL, rfl, own7, bb⟩; have hcL := su_cap own7; have RL : Grow w7 (fun w' => Row w' w7.heap.size AL ((bytesOf l).map u64v)) := fun w' hb' => (Row.of_own own7).below hb'; replace K := Lib.hid ((K.out.step bb).and RL); clear own7 RL; clear bb y0 y1 x0 x1 x2 x3 x4 u0 u1 u2 u3 u4 u5 u6 u7 u8 u9; obtain ⟨y0, y1⟩ := txt_cells K.out.now.1.1.1; obtain ⟨x0, x1, x2, x3, x4⟩ := su_job K.out.now.1.1.2.1; obtain ⟨⟨u0, u1, u2, u3, u4⟩, u5, u6, u7, u8, u9⟩ := ed_var K.out.now.1.1.2.2.1)
          have hb0 : Below w7.heap.size w7 w7 := Below.refl _ _
          have HM2 : Hid (∀ wx, Below w7.heap.size w7 wx → Calls Tryd.prog 28 #[.string ⟨S.toArray⟩, .slice AL (bytesOf l).length cL, .int .u64 (y : Nat)] wx fun e w' => e = .returned (.string ⟨MM.toArray⟩) ∧ Below w7.heap.size w7 w') := fun wx hb => (HMS.out AL cL wx ((K.out _ hb).2.more hb.size)).mono fun e w' ⟨he, h2⟩ => ⟨he, hb.trans (h2.mono hb.size)⟩
          have HF2 : Hid (∀ wx, Below w7.heap.size w7 wx → Calls Tryd.prog 27 #[.string ((⟨V.toArray⟩ : ByteArray).extract (begL V a) (endL V b)), .string ((⟨MM.toArray⟩ : ByteArray).extract (begL V a) (endL V b)), .agg #[.int .i64 (a : Nat), .int .i64 (b : Nat), .string ⟨pat.toArray⟩, .string ⟨rep.toArray⟩, .bool ev]] wx fun e w' => ∃ A' c', e = .returned (.slice A' Q.length c') ∧ Hid (w'.ownsRow w7.heap.size 3 1 (.slice A' Q.length c') Q.length (Q.map intn)) ∧ Below w7.heap.size w7 w') := fun wx hb => (HFN.out wx (HMX.out.below (K.out _ hb).1.1.2.2.2)).mono fun e w' ⟨A', c', he, ho, h2⟩ => ⟨A', c', he, own_base ho hb.size, hb.trans (h2.mono hb.size)⟩
          have HCE : Hid (∀ wx, Below w7.heap.size w7 wx → (wx.cell? ⟨w.heap.size, 0, none⟩ = some (.string ⟨S.toArray⟩)) ∧ wx.cell? ⟨w.heap.size + 1, 0, none⟩ = some (.int .i64 (a : Nat)) ∧ wx.cell? ⟨w.heap.size + 1, 1, none⟩ = some (.int .i64 (b : Nat)) ∧ wx.cell? ⟨w.heap.size + 1, 2, none⟩ = some (.string ⟨pat.toArray⟩) ∧ wx.cell? ⟨w.heap.size + 1, 3, none⟩ = some (.string ⟨rep.toArray⟩) ∧ wx.cell? ⟨w.heap.size + 1, 4, none⟩ = some (.bool ev)) := fun wx hb => ⟨(txt_cells (K.out _ hb).1.1.1).1, su_job (K.out _ hb).1.1.2.1⟩
          go_region_held3 (fun wx => (wx.cell? ⟨w.heap.size, 0, none⟩ = some (.string ⟨S.toArray⟩)) ∧ wx.cell? ⟨w.heap.size + 1, 0, none⟩ = some (.int .i64 (a : Nat)) ∧ wx.cell? ⟨w.heap.size + 1, 1, none⟩ = some (.int .i64 (b : Nat)) ∧ wx.cell? ⟨w.heap.size + 1, 2, none⟩ = some (.string ⟨pat.toArray⟩) ∧ wx.cell? ⟨w.heap.size + 1, 3, none⟩ = some (.string ⟨rep.toArray⟩) ∧ wx.cell? ⟨w.heap.size + 1, 4, none⟩ = some (.bool ev))
            ((refine HCE.out _ ?_; first | assumption | exact belowE_dr hb0))
            (first
              | (go_at_call 28; refine (HM2.out _ ?_).mono ?_; (first | assumption | exact belowE_dr hb0); rintro e w8 ⟨rfl, hbx⟩)
              | (go_at_call 27; refine (HF2.out _ ?_).mono ?_; (first | assumption | exact belowE_dr hb0); rintro e w9 ⟨AQ, cQ, rfl, ownQ, hby⟩))
          have hw79 := hby.size; replace K := Lib.hid ((K.out.step hby).and (fun w' hb' => (Row.of_own ownQ.out).below hb')); clear HM2 HF2 HCE hbx ownQ hb0 y0 y1 x0 x1 x2 x3 x4 u0 u1 u2 u3 u4 u5 u6 u7 u8 u9; obtain ⟨y0, y1⟩ := txt_cells K.out.now.1.1.1.1; obtain ⟨x0, x1, x2, x3, x4⟩ := su_job K.out.now.1.1.1.2.1; obtain ⟨⟨u0, u1, u2, u3, u4⟩, u5, u6, u7, u8, u9⟩ := ed_var K.out.now.1.1.1.2.2.1
          go_upto_region 12 with fail
          have q5 : (endL V b : Int) ≤ (cL : Int) := by omega
          have q6 : ¬ cL = begL V a := by omega
          have hb0 : Below w9.heap.size w9 w9 := Below.refl _ _
          have HR2 : Hid (∀ wx, Below w9.heap.size w9 wx → Calls Tryd.prog 29 #[.string ((⟨S.toArray⟩ : ByteArray).extract (begL V a) (endL V b)), .slice (AL.map fun x => x.add (begL V a)) (endL V b - begL V a) (cL - begL V a), .slice AQ Q.length cQ, .int .u64 (y : Nat), .agg #[.int .i64 (a : Nat), .int .i64 (b : Nat), .string ⟨pat.toArray⟩, .string ⟨rep.toArray⟩, .bool ev]] wx fun e w' => ∃ A' c', e = .returned (.tuple #[.agg #[.string ⟨X9.toArray⟩, .slice A' (pack L9).length c'], .int .i64 0]) ∧ Hid (Row w' w'.heap.size A' (flatR (pack L9))) ∧ Below w9.heap.size w9 w' ∧ Below wx.heap.size wx w') := fun wx hb => (HRE.out AL AQ cL cQ wx hcL ((K.out _ hb).1.2.more (Nat.le_trans (Nat.le_trans hw79 hb.size) (Nat.le_refl _))) ((K.out _ hb).2.more hb.size)).mono fun e w' ⟨A', c', he, ho, h2⟩ => ⟨A', c', he, Row.of_own ho, hb.trans (h2.mono hb.size), h2⟩
          have HCE : Hid (∀ wx, Below w9.heap.size w9 wx → (wx.cell? ⟨w.heap.size, 0, none⟩ = some (.string ⟨S.toArray⟩)) ∧ wx.cell? ⟨w.heap.size + 1, 0, none⟩ = some (.int .i64 (a : Nat)) ∧ wx.cell? ⟨w.heap.size + 1, 1, none⟩ = some (.int .i64 (b : Nat)) ∧ wx.cell? ⟨w.heap.size + 1, 2, none⟩ = some (.string ⟨pat.toArray⟩) ∧ wx.cell? ⟨w.heap.size + 1, 3, none⟩ = some (.string ⟨rep.toArray⟩) ∧ wx.cell? ⟨w.heap.size + 1, 4, none⟩ = some (.bool ev)) := fun wx hb => ⟨(txt_cells (K.out _ hb).1.1.1.1).1, su_job (K.out _ hb).1.1.1.2.1⟩
          go_cut [10, 19] (fun s10 s19 wx => ∃ (P9 : Nat) (A9 : Option Addr) (c9 : Nat), s19 = .pointer (some ⟨P9, 0, none⟩) ∧ s10 = .int .i64 0 ∧ Hid (Blk wx P9 24 #[.string ⟨X9.toArray⟩, .slice A9 (pack L9).length c9]) ∧ Hid (Row wx wx.heap.size A9 (flatR (pack L9))) ∧ Hid (w9.heap.size ≤ P9) ∧ Hid (Below w9.heap.size w9 wx))
          case first =>
            go_region_held3 (fun wx => (wx.cell? ⟨w.heap.size, 0, none⟩ = some (.string ⟨S.toArray⟩)) ∧ wx.cell? ⟨w.heap.size + 1, 0, none⟩ = some (.int .i64 (a : Nat)) ∧ wx.cell? ⟨w.heap.size + 1, 1, none⟩ = some (.int .i64 (b : Nat)) ∧ wx.cell? ⟨w.heap.size + 1, 2, none⟩ = some (.string ⟨pat.toArray⟩) ∧ wx.cell? ⟨w.heap.size + 1, 3, none⟩ = some (.string ⟨rep.toArray⟩) ∧ wx.cell? ⟨w.heap.size + 1, 4, none⟩ = some (.bool ev))
              ((refine HCE.out _ ?_; first | assumption | exact belowE_dr hb0 | (exact su_al (belowE_dr hb0) _) | (exact su_set2 hbz _ _) | (refine su_al ?_ _; first | assumption | exact belowE_dr hb0)))
              (first
                | (go_at_call 29; refine (HR2.out _ ?_).mono ?_; (first | assumption | exact belowE_dr hb0 | (exact su_al (belowE_dr hb0) _) | (refine su_al ?_ _; first | assumption | exact belowE_dr hb0)); rintro e wz ⟨A9, c9, rfl, own9, hbz, hcall⟩; (first | (have GB := Blk.below (Blk.drew (Blk.new w9 24 #[.string ⟨#[]⟩, .slice none 0 0])) hcall (by simp); obtain ⟨t0, t1, t2, t3⟩ := txt_var GB) | (have GB := Blk.below (Blk.new w9.drew 24 #[.string ⟨#[]⟩, .slice none 0 0]) hcall (by simp); obtain ⟨t0, t1, t2, t3⟩ := txt_var GB) | skip)))
            all_goals go_wp2_with fail
            all_goals go_meet
            all_goals first
              | exact ⟨_, A9, c9, rfl, rfl, Blk.new _ _ _, su_row_al own9.out _, hbz.size, hbz.alloc hbz.size _⟩
              | exact ⟨_, A9, c9, rfl, rfl, blk_two GB _ _, su_row_two own9.out GB _ _, Nat.le_refl _, su_set2 hbz _ _⟩
          case rest =>
            obtain ⟨P9, A9, c9, rfl, rfl, GP, RP9, ZP, BX⟩ := hcut
            have HOF := Lib.hid (fun wx hx hX => ediOf_any A A9 c c9 S l (begL V a : Nat) (endL V b : Nat) X9 (pack L9) (by omega) wx hx hX)
            rw [HMD.out] at HOF
            have K2 := Lib.hid ((K.out.step BX.out).and ((grow_blk GP.out).and (grow_txu (OkT.txt2 HO9.out RP9.out))))
            clear K GP RP9 BX y0 y1 x0 x1 x2 x3 x4 u0 u1 u2 u3 u4 u5 u6 u7 u8 u9 HCE HR2 HRE
            obtain ⟨y0, y1⟩ := txt_cells K2.out.now.1.1.1.1.1
            obtain ⟨z0, z1⟩ := txt_cells K2.out.now.2.1
            go_upto_region 16 with (go_at_call 30; refine (HOF.out _ K2.out.now.1.1.1.2 K2.out.now.2.2).mono ?_; rintro e wu ⟨A11, c11, A12, c12, rfl, r11, r12, bb⟩; dsimp only at r11 r12 ⊢; rw [show ((0 : Nat) : Int) = 0 from rfl]; have KE := Lib.hid ((K2.out.step bb).evar (c := c11) (d := c12) (a := ((begL V a : Nat) : Int)) (A := A11) (B := A12) (OkT.txt2 HOC.out r11) (OkT.txt2 HO9.out r12)); clear r11 r12 bb y0 y1 z0 z1; obtain ⟨v0, v1, v2, v3, v4⟩ := ed_cells KE.out.now.1.1; obtain ⟨⟨u0, u1, u2, u3, u4⟩, u5, u6, u7, u8, u9⟩ := ed_var KE.out.now.2.1.1.1.1.2.2.1)
            go_wp2_with fail
            have E := edit_end (A := A11) (A2 := A12) (l := pack L0) (m := pack L9) (s := ⟨X0.toArray⟩) (x := ⟨X9.toArray⟩) ((begL V a : Nat) : Int) KE.out.now.2.1.1.1.1.2.2.2 KE.out.now.2.1.1.1.1.2.2.1 (by omega) (rowN_noLab KE.out.now.1.2.1.row (Nat.le_refl _) KE.out.now.2.1.1.1.1.2.2.1 (noLab_edit _ _ _ _ _ _ _ _ _)) (rowN_noLab KE.out.now.1.2.2.row (Nat.le_refl _) KE.out.now.2.1.1.1.1.2.2.1 (noLab_edit _ _ _ _ _ _ _ _ _)) (.slice A11 (pack L0).length c11) (.slice A12 (pack L9).length c12)
            refine ret_edit3 rfl _ _ (w.heap.size + 1 + 1) _ _ _ _ _ rfl E.1 rfl ?_
            rw [HR.out]
            exact ⟨A11, c11, A12, c12, rfl, E.2.1, E.2.2.1, E.2.2.2⟩
  · have HR : Hid (subS S l y A0 B0 pat rep ev = ((⟨0, [], [], [], []⟩, 0), 2)) := by
      show _ = _; unfold subS viewOf; rw [if_neg hg]; exact if_pos (Or.inl (by decide))
    have hv : viewOf S l y = ([], 2) := if_neg hg
    rw [hv] at HVW
    go_enter Tryd.func11, Tryd.ntmps11
    go_upto_region 1 with fail
    generalize ((w.alloc (.cells #[.string ⟨S.toArray⟩, .slice A l.length c] 24)).alloc (.cells #[.int .i64 A0, .int .i64 B0, .string ⟨pat.toArray⟩, .string ⟨rep.toArray⟩, .bool ev] 28)).alloc (.cells #[.int .i64 0, .string ⟨#[]⟩, .slice none 0 0, .string ⟨#[]⟩, .slice none 0 0] 32) = wx at *
    go_wp2_with (go_at_call 21; refine (HVW.out _ K.out.now.2).mono ?_; rintro e w2 ⟨rfl, bb⟩; replace K := Lib.hid (K.out.step bb); clear bb y0 y1 x0 x1 x2 x3 x4 u0 u1 u2 u3 u4 u5 u6 u7 u8 u9; obtain ⟨y0, y1⟩ := txt_cells K.out.now.1.1; obtain ⟨x0, x1, x2, x3, x4⟩ := su_job K.out.now.1.2.1; obtain ⟨⟨u0, u1, u2, u3, u4⟩, u5, u6, u7, u8, u9⟩ := ed_var K.out.now.1.2.2.1)
    have E := givesE_zero K.out.now.1.2.2.2 K.out.now.1.2.2.1 (by omega) 2
    refine ret_edit3 rfl _ _ (w.heap.size + 1 + 1) _ _ _ _ _ rfl E.1 rfl ?_
    rw [HR.out]
    obtain ⟨_, _, _, _, _, _, _, hbz⟩ := E.2
    exact givesSu_zero hbz
end Go.Proofs.YtgmeamefbfgbgaaDoor

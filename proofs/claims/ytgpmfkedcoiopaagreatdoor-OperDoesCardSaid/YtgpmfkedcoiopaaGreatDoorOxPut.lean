/-
  The landed putBytes: layer 14.
-/
import Derived.Test.YtgpmfkedcoiopaaGreatDoorOxTim
import Derived.Test.YtgpmfkedcoiopaaGreatDoorOxKey
import Derived.Test.YtgpmfkedcoiopaaGreatDoorOxSpan
import Derived.Test.YtgpmfkedcoiopaaGreatDoorM14c
namespace Go.Proofs.YtgpmfkedcoiopaaGreatDoor
open Go.RowKit
set_option maxRecDepth 100000

/-- what is kept in putBytes -/
structure PbK (w wr : World) (A : Option Addr) (c : Nat) (S : List UInt8) (l : List RunP) (y : Nat) (V : List UInt8) (A2 : Option Addr) (c2 : Nat) (X : List UInt8) (m : List RunP) : Prop where
  si : Blk wr w.heap.size 89 #[.string ⟨S.toArray⟩, .slice A l.length c, .int .u64 (y : Nat), .string ⟨V.toArray⟩]
  tx : Blk wr (w.heap.size + 1) 32 #[.string ⟨X.toArray⟩, .slice A2 m.length c2]
  res : Blk wr (w.heap.size + 1 + 1) 43 #[.int .i64 0, .string ⟨#[]⟩, .slice none 0 0, .string ⟨#[]⟩, .slice none 0 0, .string ⟨#[]⟩, .slice none 0 0, .bool false, .bool false, .int .i64 0]
  bel : Below w.heap.size w wr
  tS : Txu wr A S l
  tX : Txu wr A2 X m
section
variable {w wr w' : World} {A A2 : Option Addr} {c c2 : Nat} {S X : List UInt8} {l m : List RunP} {y : Nat} {V : List UInt8}
theorem PbK.step (h : PbK w wr A c S l y V A2 c2 X m) (hb : Below wr.heap.size wr w') : PbK w w' A c S l y V A2 c2 X m :=
  ⟨h.si.below hb h.si.lt, h.tx.below hb h.tx.lt, h.res.below hb h.res.lt, h.bel.trans (hb.mono h.bel.size), grow_txu h.tS _ hb, grow_txu h.tX _ hb⟩
theorem PbK.start (h : Txu w A S l) (hX : Txu w A2 X m) : PbK w (((w.alloc (.cells #[.string ⟨S.toArray⟩, .slice A l.length c, .int .u64 (y : Nat), .string ⟨V.toArray⟩] 89)).alloc (.cells #[.string ⟨X.toArray⟩, .slice A2 m.length c2] 32)).alloc (.cells #[.int .i64 0, .string ⟨#[]⟩, .slice none 0 0, .string ⟨#[]⟩, .slice none 0 0, .string ⟨#[]⟩, .slice none 0 0, .bool false, .bool false, .int .i64 0] 43)) A c S l y V A2 c2 X m := by
  have BX := boxesE3 w 89 32 43 #[.string ⟨S.toArray⟩, .slice A l.length c, .int .u64 (y : Nat), .string ⟨V.toArray⟩] #[.string ⟨X.toArray⟩, .slice A2 m.length c2] #[.int .i64 0, .string ⟨#[]⟩, .slice none 0 0, .string ⟨#[]⟩, .slice none 0 0, .string ⟨#[]⟩, .slice none 0 0, .bool false, .bool false, .int .i64 0]
  exact ⟨BX.now.1, BX.now.2.1, BX.now.2.2.1, BX.now.2.2.2, grow_txu h _ BX.now.2.2.2, grow_txu hX _ BX.now.2.2.2⟩
/-- another text in its place -/
theorem PbK.put (h : PbK w wr A c S l y V A2 c2 X m) {A3 : Option Addr} {c3 : Nat} {Y : List UInt8} {k : List RunP} (hY : Txu wr A3 Y k) :
    PbK w ((wr.setCell ⟨w.heap.size + 1, 0, none⟩ (.string ⟨Y.toArray⟩)).setCell ⟨w.heap.size + 1, 1, none⟩ (.slice A3 k.length c3)) A c S l y V A3 c3 Y k :=
  ⟨setMany_far h.si (by omega) [(0, .string ⟨Y.toArray⟩), (1, .slice A3 k.length c3)], blk_two h.tx _ _, setMany_far h.res (by omega) [(0, .string ⟨Y.toArray⟩), (1, .slice A3 k.length c3)], setMany_below h.bel (by omega) [(0, .string ⟨Y.toArray⟩), (1, .slice A3 k.length c3)],
   setMany_txu h.tS h.tx noLab_txt [(0, .string ⟨Y.toArray⟩), (1, .slice A3 k.length c3)], setMany_txu hY h.tx noLab_txt [(0, .string ⟨Y.toArray⟩), (1, .slice A3 k.length c3)]⟩
end
theorem has10 (V : List UInt8) (a : Nat) : [(10 : UInt8)].isPrefixOf (V.drop a) = decide (V[a]? = some 10) := by
  cases h : V.drop a with
  | nil =>
    have : V[a]? = none := List.getElem?_eq_none (List.drop_eq_nil_iff.1 h)
    rw [this]; rfl
  | cons b t =>
    have hb : V[a]? = some b := by
      have := congrArg (fun z => z[0]?) h
      simpa using this
    rw [hb]
    simp only [List.isPrefixOf, Bool.and_true, Option.some.injEq]
    by_cases e : b = 10
    · subst e; rfl
    · rw [decide_eq_false e, beq_eq_false_iff_ne]; exact fun h => e h.symm
theorem next_end {V : List UInt8} {a : Nat} (h : V.length ≤ a) : nextM V (a : Nat) = V.length := by
  have hw : whichM (chars V) (a : Nat) = (chars V).length := ((which_behind V (by omega)).unique (which_is _ _)).symm
  unfold nextM
  rw [hw, List.take_of_length_le (by omega), width_chars]
theorem tm_runs {X : List UInt8} {m : List RunP} (hg : goodT X m = true) (n : Nat) : (tmT X m n).1.2.length ≤ 1000000 := by
  unfold tmT
  split
  · next h =>
    have h1 := pack_len (repM n (bytesOf m))
    rw [repM_len, (goodT_size hg).2.2] at h1
    dsimp only
    omega
  · exact Nat.zero_le _
def ptB (S : List UInt8) (l : List RunP) (V : List UInt8) (y a : Nat) (X : List UInt8) (m : List RunP) (ah : Bool) (n : Nat) : OutP × Nat :=
  if (tmT X m n).2 = 0 then
    if (turnedM S l y (putTo V a ah : Nat) (putTo V a ah : Nat) (tmT X m n).1.1 (tmT X m n).1.2 true).2 = 0 then
      (⟨(turnedM S l y (putTo V a ah : Nat) (putTo V a ah : Nat) (tmT X m n).1.1 (tmT X m n).1.2 true).1.1, [], [], false, false,
        ((if (tmT X m n).1.1.length = 0 then a else alignM (turnedM S l y (putTo V a ah : Nat) (putTo V a ah : Nat) (tmT X m n).1.1 (tmT X m n).1.2 true).1.2 ((putTo V a ah : Nat) + (tmT X m n).1.1.length - 1 : Int) : Nat) : Int)⟩, 0)
    else (out0, (turnedM S l y (putTo V a ah : Nat) (putTo V a ah : Nat) (tmT X m n).1.1 (tmT X m n).1.2 true).2)
  else (out0, (tmT X m n).2)
set_option maxHeartbeats 16000000 in
theorem oxPutB_any (A A2 : Option Addr) (c c2 : Nat) (S : List UInt8) (l : List RunP) (y : Nat) (hy : y < 18446744073709551616) (V : List UInt8) (hVl : V.length ≤ 4096) (a : Nat) (ha : a ≤ V.length) (X : List UInt8) (m : List RunP) (hgX : goodT X m = true) (ah : Bool) (n : Nat) (hn1 : 1 ≤ n) (hn2 : n ≤ 1000) (w : World) (h : Txu w A S l) (hX : Txu w A2 X m) :
    Calls Tryz.prog 77 #[.agg #[.string ⟨S.toArray⟩, .slice A l.length c, .int .u64 (y : Nat), .string ⟨V.toArray⟩], .int .i64 (a : Nat), .agg #[.string ⟨X.toArray⟩, .slice A2 m.length c2], .bool ah, .int .i64 (n : Nat)] w (GivesO w (ptB S l V y a X m ah n)) := by
  have HTI := Lib.hid (fun A c wx hx => oxTimes_any X m hgX n hn1 hn2 A c wx hx)
  have okt := okT_tm hgX hX.hf n
  have HHP := Lib.hid (fun wx => keyHas_any (V.drop a) [10] (by rw [List.length_drop]; omega) (by decide) wx)
  rw [has10] at HHP
  have HNX := Lib.hid (fun wx => oxNext_any V (by omega) (a : Nat) wx)
  have HTD := Lib.hid (text_slice V a V.length ha)
  have hnx : putTo V a ah ≤ 4096 ∧ (ah = true → putTo V a ah = a) ∧ (ah = false → decide (V[a]? = some 10) = true → putTo V a ah = a) ∧ (ah = false → decide (V[a]? = some 10) = false → putTo V a ah = nextM V (a : Nat)) := by
    have hle : nextM V (a : Nat) ≤ V.length := by
      have := width_le_take (chars V) (whichM (chars V) (a : Nat) + 1)
      rwa [width_chars] at this
    unfold putTo
    refine ⟨by split <;> omega, fun e => if_neg (fun h => by rw [e] at h; exact absurd h.1 (by decide)), fun _ e => if_neg (fun h => h.2.2 (of_decide_eq_true e)), fun e1 e2 => ?_⟩
    by_cases hlt : a < V.length
    · exact if_pos ⟨e1, hlt, of_decide_eq_false e2⟩
    · rw [if_neg (fun h => hlt h.2.1), next_end (by omega)]; omega
  obtain ⟨v, hv⟩ : ∃ v, ptB S l V y a X m ah n = v := ⟨_, rfl⟩
  rw [hv]
  unfold ptB at hv
  generalize putTo V a ah = P at *
  generalize nextM V (a : Nat) = nx at *
  generalize decide (V[a]? = some 10) = hp at *
  have hkl := tm_runs hgX n
  generalize tmT X m n = tt at *
  obtain ⟨⟨Y, k⟩, tn⟩ := tt
  dsimp only at hv okt
  have HV := Lib.hid hv
  have OKT := Lib.hid okt.1
  have hYl := okt.1.1
  dsimp only at hYl
  have HYN := Lib.hid hYl
  have HKN : Hid (k.length ≤ 1000000) := hkl
  have K0 : Hid (PbK w _ A c S l y V A2 c2 X m) := Lib.hid (PbK.start h hX)
  have HXP := Lib.hid hnx
  have hPl := hnx.1
  clear hv okt h hX hgX hnx hn1 hn2
  have okv := turned_view S l y (P : Nat) (P : Nat) Y k true
  obtain ⟨tm, htm⟩ : ∃ tm, turnedM S l y (P : Nat) (P : Nat) Y k true = tm := ⟨_, rfl⟩
  rw [htm] at HV okv
  obtain ⟨⟨⟨ea, ES, el, EX, em⟩, W⟩, en⟩ := tm
  dsimp only at HV okv
  have HAL := Lib.hid (fun p wx => oxAlign_any W (by omega) p wx)
  have HTM := Lib.hid htm
  have HVL := Lib.hid hVl
  have HA := Lib.hid ha
  clear htm okv hVl
  go_enter Tryz.func77, Tryz.ntmps77
  go_upto_region 2 with fail
  generalize ((w.alloc (.cells #[.string ⟨S.toArray⟩, .slice A l.length c, .int .u64 (y : Nat), .string ⟨V.toArray⟩] 89)).alloc (.cells #[.string ⟨X.toArray⟩, .slice A2 m.length c2] 32)).alloc (.cells #[.int .i64 0, .string ⟨#[]⟩, .slice none 0 0, .string ⟨#[]⟩, .slice none 0 0, .string ⟨#[]⟩, .slice none 0 0, .bool false, .bool false, .int .i64 0] 43) = wx at *
  obtain ⟨⟨y0, y1, y2, y3⟩, _⟩ := si_cells K0.out.si
  have FIN : Hid (∃ wy, Below wx.heap.size wx wy) := ⟨wx, Below.refl _ _⟩
  clear FIN
  cases ah
  case' false =>
    have ha' : (a : Int) ≤ (V.length : Int) := by have := HA.out; omega
    have e3 : ((V.drop a).take (V.length - a)) = V.drop a := by rw [List.take_of_length_le (by rw [List.length_drop]; omega)]
    have htd := HTD.out
    rw [e3] at htd
    clear HTD e3
    cases hp
    case' false =>
      obtain rfl : P = nx := HXP.out.2.2.2 rfl rfl
      clear HXP
      go_upto_region 3 with (go_at_call 121; refine (HHP.out _).mono ?_; rintro e w2 ⟨rfl, hw⟩; subst w2)
      go_upto_region 4 with (go_at_call 42; refine (HNX.out _).mono ?_; rintro e w2 ⟨rfl, bb⟩; replace K0 := Lib.hid (K0.out.step bb); clear y0 y1 y2 y3 bb; obtain ⟨⟨y0, y1, y2, y3⟩, _⟩ := si_cells K0.out.si)
    case' true =>
      obtain rfl : P = a := HXP.out.2.2.1 rfl rfl
      clear HXP HNX
      go_upto_region 4 with (go_at_call 121; refine (HHP.out _).mono ?_; rintro e w2 ⟨rfl, hw⟩; subst w2)
  case' true =>
    obtain rfl : P = a := HXP.out.2.1 rfl
    clear HXP HHP HNX HTD
    go_upto_region 4 with fail
  all_goals
    clear y0 y1 y2 y3
    obtain ⟨y0, y1⟩ := txt_cells K0.out.tx
    go_upto_region 5 with (go_at_call 133; refine (HTI.out _ _ _ K0.out.tX).mono ?_; rintro e w3 ⟨A3, c3, rfl, r3, bb⟩; dsimp only at r3 ⊢; have K3 := Lib.hid (K0.out.step bb); have X3 : Hid (Txu w3 A3 Y k) := OKT.out.txt r3; clear r3 bb y0 y1; obtain ⟨y0, y1⟩ := txt_cells K3.out.tx; have y2 := K3.out.tx.frozen 0; have y3 := K3.out.tx.frozen 1)
    have K5 := Lib.hid (K3.out.put (c3 := c3) X3.out)
    generalize (w3.setCell ⟨w.heap.size + 1, 0, none⟩ (.string ⟨Y.toArray⟩)).setCell ⟨w.heap.size + 1, 1, none⟩ (.slice A3 k.length c3) = w5 at *
    clear y0 y1 y2 y3 K0 K3 X3 HTI
    by_cases htn : tn = 0
    · subst htn
      have HV2 := Lib.hid ((if_pos rfl).symm.trans HV.out)
      obtain ⟨⟨y0, y1, y2, y3⟩, _⟩ := si_cells K5.out.si
      obtain ⟨x0, x1⟩ := txt_cells K5.out.tx
      go_upto_region 8 with (go_at_call 69; refine (oxRepl_any A A3 c c3 S l y hy V _ _ Y k HKN.out _ K5.out.tS K5.out.tX).mono ?_; rw [HTM.out]; rintro ee w6 ⟨A4, c4, B4, d4, rfl, rA, rB, bb⟩; dsimp only at rA rB ⊢; have K6 := Lib.hid ((K5.out.step bb).step ((Below.refl _ _).alloc (Nat.le_refl _) (.cells #[.int .i64 ea, .string ⟨ES.toArray⟩, .slice A4 el.length c4, .string ⟨EX.toArray⟩, .slice B4 em.length d4] 41))); have RA := Lib.hid (row_step rA ((Below.refl _ _).alloc (Nat.le_refl _) (.cells #[.int .i64 ea, .string ⟨ES.toArray⟩, .slice A4 el.length c4, .string ⟨EX.toArray⟩, .slice B4 em.length d4] 41))); have RB := Lib.hid (row_step rB ((Below.refl _ _).alloc (Nat.le_refl _) (.cells #[.int .i64 ea, .string ⟨ES.toArray⟩, .slice A4 el.length c4, .string ⟨EX.toArray⟩, .slice B4 em.length d4] 41))); have V3 := Lib.hid (Blk.new w6 41 #[.int .i64 ea, .string ⟨ES.toArray⟩, .slice A4 el.length c4, .string ⟨EX.toArray⟩, .slice B4 em.length d4]); have N3 : Hid (w.heap.size + 1 + 1 < w6.heap.size) := (K5.out.step bb).res.lt; clear rA rB bb y0 y1 y2 y3 x0 x1)
      generalize hg14 : w6.heap.size = g14 at *
      generalize w6.alloc (.cells #[.int .i64 ea, .string ⟨ES.toArray⟩, .slice A4 el.length c4, .string ⟨EX.toArray⟩, .slice B4 em.length d4] 41) = wb at *
      clear hg14 K5
      have K8 := K6
      clear K6
      by_cases hen : en = 0
      · subst hen
        have HV3 := Lib.hid ((if_pos rfl).symm.trans HV2.out)
        clear HV HV2
        cases Y with
        | nil =>
          have HV4 := Lib.hid HV3.out
          obtain ⟨⟨r0, r1, r2, r3, r4, r5, r6, r7, r8, r9⟩, t0, t1, t2, t3, t4, t5, t6, t7, t8, t9⟩ := out_cells K8.out.res
          obtain ⟨e0, e1, e2, e3, e4⟩ := ed_cells V3.out
          obtain ⟨x0, x1⟩ := txt_cells K8.out.tx
          go_wp2_with fail
          exact end_out (A := A4) (B := B4) (C := none) (c := c4) (d := d4) (k := 0) (R := []) (l := el) (m := em) (q := []) rfl _ K8.out.res noLab_out K8.out.bel (by omega) RA.out RB.out (.inl rfl) rfl rfl rfl HV4.out (fun _ _ h => h)
        | cons yb yt =>
          obtain ⟨z, hz⟩ : ∃ z, alignM W (((P : Nat) : Int) + ((yb :: yt).length : Nat) - 1) = z := ⟨_, rfl⟩
          have HV4 : Hid ((((⟨⟨ea, ES, el, EX, em⟩, [], [], false, false, ((z : Nat) : Int)⟩ : OutP), 0) = v)) := by
            show _ = _
            rw [← HV3.out, if_neg (by simp), ← hz]
          have HZ : Hid (alignM W (IntKind.i64.wrap (IntKind.i64.wrap (((P : Nat) : Int) + ((yb :: yt).length : Nat)) - 1)) = z) := by
            show _ = _
            have hle := HYN.out
            rw [wrapP_near (((P : Nat) : Int) + ((yb :: yt).length : Nat)) (by omega) (by omega), wrapP_near _ (by omega) (by omega)]
            exact hz
          clear hz
          obtain ⟨x0, x1⟩ := txt_cells K8.out.tx
          have hy1 : 1 ≤ (yb :: yt).length := Nat.succ_pos _
          go_upto_region 12 with fail
          generalize yb :: yt = Y at *
          clear x0 x1
          have hb0 : Below wb.heap.size wb wb := Below.refl _ _
          have hbz : Below wb.heap.size wb wb.drew := below_drewN hb0 1
          have KS : Hid (∀ w', Below wb.heap.size wb w' → (((w'.cell? ⟨g14, 0, none⟩ = some (.int .i64 ea) ∧ w'.cell? ⟨g14, 1, none⟩ = some (.string ⟨ES.toArray⟩) ∧ w'.cell? ⟨g14, 2, none⟩ = some (.slice A4 el.length c4) ∧ w'.cell? ⟨g14, 3, none⟩ = some (.string ⟨EX.toArray⟩) ∧ w'.cell? ⟨g14, 4, none⟩ = some (.slice B4 em.length d4)) ∧ w'.cell? ⟨w.heap.size + 1, 0, none⟩ = some (.string ⟨Y.toArray⟩)))) := fun w' hb => ⟨ed_cells (V3.out.below hb V3.out.lt), (txt_cells (K8.out.step hb).tx).1⟩
          refine wp_region_held_drew (S := fun w' => ((w'.cell? ⟨g14, 0, none⟩ = some (.int .i64 ea) ∧ w'.cell? ⟨g14, 1, none⟩ = some (.string ⟨ES.toArray⟩) ∧ w'.cell? ⟨g14, 2, none⟩ = some (.slice A4 el.length c4) ∧ w'.cell? ⟨g14, 3, none⟩ = some (.string ⟨EX.toArray⟩) ∧ w'.cell? ⟨g14, 4, none⟩ = some (.slice B4 em.length d4)) ∧ w'.cell? ⟨w.heap.size + 1, 0, none⟩ = some (.string ⟨Y.toArray⟩))) (by kernel_rfl) (KS.out _ hbz) (fun hHeld => ?_)
          refine wpAnyH_take (i := 0) (v := ?_) rfl (by kernel_rfl) (by kernel_rfl) (by kernel_rfl) (fun _ _ _ h => h) (Or.inl ⟨by rfl, ?_⟩) (by assumption) ?_
          rotate_left
          · (intro w hSw; obtain ⟨⟨q0, q1, q2, q3, q4⟩, q5⟩ := hSw; go_simp; (try with_reducible rfl))
          (try simp only [List.getElem_toArray, List.getElem_cons_zero, Act.put, List.setIfInBounds_toArray, List.set_cons_zero, List.set_cons_succ])
          refine wpAnyH_take (i := 1) (v := ?_) rfl (by kernel_rfl) (by kernel_rfl) (by kernel_rfl) (fun _ _ _ h => h) (Or.inl ⟨by rfl, ?_⟩) (by assumption) ?_
          rotate_left
          · (intro w hSw; obtain ⟨⟨q0, q1, q2, q3, q4⟩, q5⟩ := hSw; go_simp; (try with_reducible rfl))
          (try simp only [List.getElem_toArray, Act.put, List.setIfInBounds_toArray])
          refine wpAnyH_take (i := 2) (v := ?_) rfl (by kernel_rfl) (by kernel_rfl) (by kernel_rfl) (fun _ _ _ h => h) (Or.inl ⟨by rfl, ?_⟩) (by assumption) ?_
          rotate_left
          · (intro w hSw; obtain ⟨⟨q0, q1, q2, q3, q4⟩, q5⟩ := hSw; go_simp; (try with_reducible rfl))
          (try simp only [List.getElem_toArray, List.getElem_cons_zero, List.getElem_cons_succ, Act.put, List.setIfInBounds_toArray, List.set_cons_zero, List.set_cons_succ])
          refine wpAnyH_take (i := 3) (v := ?_) rfl (by kernel_rfl) (by kernel_rfl) (by kernel_rfl) (fun _ _ _ h => h) (Or.inl ⟨by rfl, ?_⟩) (by assumption) ?_
          rotate_left
          · (intro w hSw; obtain ⟨⟨q0, q1, q2, q3, q4⟩, q5⟩ := hSw; go_simp; (try with_reducible rfl))
          (try simp only [List.getElem_toArray, List.getElem_cons_zero, List.getElem_cons_succ, Act.put, List.setIfInBounds_toArray, List.set_cons_zero, List.set_cons_succ])
          refine wpAnyH_take (i := 4) (v := ?_) rfl (by kernel_rfl) (by kernel_rfl) (by kernel_rfl) (fun _ _ _ h => h) (Or.inl ⟨by rfl, ?_⟩) (by assumption) ?_
          rotate_left
          · (intro w hSw; obtain ⟨⟨q0, q1, q2, q3, q4⟩, q5⟩ := hSw; go_simp; (try with_reducible rfl))
          (try simp only [List.getElem_toArray, List.getElem_cons_zero, List.getElem_cons_succ, Act.put, List.setIfInBounds_toArray, List.set_cons_zero, List.set_cons_succ])
          refine wpAnyH_take (i := 5) (v := ?_) rfl (by kernel_rfl) (by kernel_rfl) (by kernel_rfl) (fun _ _ _ h => h) (Or.inl ⟨by rfl, ?_⟩) (by assumption) ?_
          rotate_left
          · (intro w hSw; obtain ⟨⟨q0, q1, q2, q3, q4⟩, q5⟩ := hSw; go_simp; (try with_reducible rfl))
          (try simp only [List.getElem_toArray, List.getElem_cons_zero, List.getElem_cons_succ, Act.put, List.setIfInBounds_toArray, List.set_cons_zero, List.set_cons_succ])
          refine wpAnyH_take (i := 6) (v := ?_) rfl (by kernel_rfl) (by kernel_rfl) (by kernel_rfl) (fun _ _ _ h => h) (Or.inl ⟨by rfl, ?_⟩) (by assumption) ?_
          rotate_left
          · (intro w hSw; obtain ⟨⟨q0, q1, q2, q3, q4⟩, q5⟩ := hSw; go_simp; (try with_reducible rfl))
          (try simp only [List.getElem_toArray, List.getElem_cons_zero, List.getElem_cons_succ, Act.put, List.setIfInBounds_toArray, List.set_cons_zero, List.set_cons_succ])
          refine wpAnyH_take (i := 7) (v := ?_) rfl (by kernel_rfl) (by kernel_rfl) (by kernel_rfl) (fun _ _ _ h => h) (Or.inl ⟨by rfl, ?_⟩) (by assumption) ?_
          rotate_left
          · (intro w hSw; obtain ⟨⟨q0, q1, q2, q3, q4⟩, q5⟩ := hSw; go_simp; (try with_reducible rfl))
          (try simp only [List.getElem_toArray, List.getElem_cons_zero, List.getElem_cons_succ, Act.put, List.setIfInBounds_toArray, List.set_cons_zero, List.set_cons_succ])
          refine wpAnyH_ready (rs := [8]) (by kernel_rfl) (by simp) ?_
          refine AllReadyH.cons rfl (fun K hK => ?_) AllReadyH.nil
          go_simp
          refine (HAL.out _ _).mono ?_
          rintro ee w9 ⟨rfl, hby⟩
          rw [HZ.out]
          have hbx : Below wb.heap.size wb w9 := hbz.trans (hby.mono hbz.size)
          (try go_wp2_with fail)
          refine hK.out _ _ (KS.out _ hbx) (fun hHeld => ?_)
          clear hK K
          (try simp only [List.getElem_toArray, List.getElem_cons_zero, List.getElem_cons_succ, Act.put, List.setIfInBounds_toArray, List.set_cons_zero, List.set_cons_succ])
          refine wpAnyH_take (i := 9) (v := ?_) rfl (by kernel_rfl) (by kernel_rfl) (by kernel_rfl) (fun _ _ _ h => h) (Or.inl ⟨by rfl, ?_⟩) (by assumption) ?_
          rotate_left
          · (intro w hSw; obtain ⟨⟨q0, q1, q2, q3, q4⟩, q5⟩ := hSw; go_simp; (try with_reducible rfl))
          (try simp only [List.getElem_toArray, List.getElem_cons_zero, List.getElem_cons_succ, Act.put, List.setIfInBounds_toArray, List.set_cons_zero, List.set_cons_succ])
          have K9 := Lib.hid (K8.out.step hbx)
          have RA9 := Lib.hid (row_step RA.out hbx)
          have RB9 := Lib.hid (row_step RB.out hbx)
          obtain ⟨⟨r0, r1, r2, r3, r4, r5, r6, r7, r8, r9⟩, t0, t1, t2, t3, t4, t5, t6, t7, t8, t9⟩ := out_cells K9.out.res
          refine wpAnyH_ready (rs := [10]) (by kernel_rfl) (by simp) ?_
          refine AllReadyH.cons rfl (fun K hK => ?_) AllReadyH.nil
          go_simp
          refine hK.out _ _ (show _ from ⟨ed_cells (setMany_far (V3.out.below hbx V3.out.lt) (Nat.ne_of_gt N3.out) [(0, .int .i64 ea), (1, .string ⟨ES.toArray⟩), (2, .slice A4 el.length c4), (3, .string ⟨EX.toArray⟩), (4, .slice B4 em.length d4), (5, .string ⟨#[]⟩), (6, .slice none 0 0), (7, .bool false), (8, .bool false), (9, .int .i64 ((z : Nat)))]), (txt_cells (setMany_far K9.out.tx (by omega) [(0, .int .i64 ea), (1, .string ⟨ES.toArray⟩), (2, .slice A4 el.length c4), (3, .string ⟨EX.toArray⟩), (4, .slice B4 em.length d4), (5, .string ⟨#[]⟩), (6, .slice none 0 0), (7, .bool false), (8, .bool false), (9, .int .i64 ((z : Nat)))])).1⟩) (fun hHeld => ?_)
          clear hK K
          (try simp only [List.getElem_toArray, List.getElem_cons_zero, List.getElem_cons_succ, Act.put, List.setIfInBounds_toArray, List.set_cons_zero, List.set_cons_succ])
          refine wpAnyH_take (i := 11) (v := ?_) rfl (by kernel_rfl) (by kernel_rfl) (by kernel_rfl) (fun _ _ _ h => h) (Or.inl ⟨by rfl, ?_⟩) (by assumption) ?_
          rotate_left
          · (intro w hSw; obtain ⟨⟨q0, q1, q2, q3, q4⟩, q5⟩ := hSw; go_simp; (try with_reducible rfl))
          (try simp only [List.getElem_toArray, List.getElem_cons_zero, List.getElem_cons_succ, Act.put, List.setIfInBounds_toArray, List.set_cons_zero, List.set_cons_succ])
          refine wpAnyH_done (by kernel_rfl) ?_ _
          go_wp2_with fail
          exact end_out (A := A4) (B := B4) (C := none) (c := c4) (d := d4) (k := 0) (R := []) (l := el) (m := em) (q := []) rfl _ K9.out.res noLab_out K9.out.bel (by omega) RA9.out RB9.out (.inl rfl) rfl rfl rfl HV4.out (fun _ _ h => h)
      · have HV3 := Lib.hid ((if_neg hen).symm.trans HV2.out)
        have hn2 : ((en : Int) != 0) = true := by rw [bne_iff_ne]; omega
        obtain ⟨⟨r0, r1, r2, r3, r4, r5, r6, r7, r8, r9⟩, t0, t1, t2, t3, t4, t5, t6, t7, t8, t9⟩ := out_cells K8.out.res
        go_wp2_with fail
        exact end_zero rfl _ K8.out.res noLab_out K8.out.bel (by omega) rfl rfl rfl HV3.out (fun _ _ h => h)
    · have HV2 := Lib.hid ((if_neg htn).symm.trans HV.out)
      have hn2 : ((tn : Int) != 0) = true := by rw [bne_iff_ne]; omega
      obtain ⟨⟨r0, r1, r2, r3, r4, r5, r6, r7, r8, r9⟩, t0, t1, t2, t3, t4, t5, t6, t7, t8, t9⟩ := out_cells K5.out.res
      go_wp2_with fail
      exact end_zero rfl _ K5.out.res noLab_out K5.out.bel (by omega) rfl rfl rfl HV2.out (fun _ _ h => h)
end Go.Proofs.YtgpmfkedcoiopaaGreatDoor

/-
  A sign that stands nowhere, put in place of another text, and that text in its place again: layers 7, 15, WholeSwaps.
-/
import Derived.Test.YtgmeamefbfgbgaaDoorSuOk
import Derived.Test.YtgmeamefbfgbgaaDoorOpFit
import Derived.Test.YtgmeamefbfgbgaaDoorSuStan
import Derived.Test.YtgmeamefbfgbgaaDoorM07e
import Derived.Test.YtgmeamefbfgbgaaDoorM04o
import Derived.Test.YtgmeamefbfgbgaaDoorM06l
namespace Go.Proofs.YtgmeamefbfgbgaaDoor
open Go.RowKit
set_option maxRecDepth 100000

theorem alT_1 : (subS [97, 97] [(1, 2)] 1 0 0 [97] [98] true).2 = 0 ∧ (subS [97, 97] [(1, 2)] 1 0 0 [97] [98] true).1.2 = 2 := by decide +kernel
theorem one_yes {b : UInt8} (h : b = 1) : ((b.toNat : Int) == 1) = true := by subst h; rfl
theorem one_no {b : UInt8} (h : ¬ b = 1) : ((b.toNat : Int) == 1) = false := by
  have : b.toNat ≠ 1 := fun e => h (UInt8.toNat_inj.1 e)
  simpa using by omega
theorem sub_swaps {S : List UInt8} {l : List RunP} {y : Nat} {pat V : List UInt8} {e : EdP} {n : Nat} (_hg : goodT S l = true) (hV : viewTo S (bytesOf l) y = V) (h1 : (1 : UInt8) ∉ S) (hp : pat.length ≤ 60) (h : subS S l y 0 ((countL V : Int) - 1) pat [1] true = ((e, n), 0)) :
    ∃ U q e2 q2, applyE S l e.a e.S e.l e.X e.m = ((U, q), 0) ∧ subS U q y 0 ((countL V : Int) - 1) [1] pat true = ((e2, n), 0) ∧ applyE U q e2.a e2.S e2.l e2.X e2.m = ((S, q2), 0) := by
  obtain ⟨a, b, V', P, ea, eb, hP, H⟩ := subS_zero (by rw [h])
  obtain rfl : a = 0 := by omega
  obtain rfl : V' = V := by rw [H.v, hV]
  have hb : b + 1 = countL V' := by omega
  have h' : subS S l y ((0 : Nat) : Int) ((b : Nat) : Int) pat [1] true = ((e, n), 0) := by rw [← eb]; exact h
  rw [subS_ok H hP] at h'
  injection h' with h' _
  injection h' with he hn
  obtain ⟨U, q, V2, P2, a1, H2, a3, a4⟩ := H.swaps hb h1 (by omega)
  have hP2 : P2 ≠ [] := by
    intro e0
    rw [e0] at a3
    have := SubP.pos hP
    simp at a3
    omega
  have h2 := H2.apply rfl rfl
  rw [a4] at h2
  subst he
  have h3 := subS_ok H2 hP2
  rw [a3, hn, ← eb] at h3
  exact ⟨U, q, _, _, a1, h3, h2⟩
set_option maxHeartbeats 8000000 in
theorem wholeSwaps_walk (w : World) (KS : SubstSays w) (A : Option Addr) (c : Nat) (S : List UInt8) (l : List RunP) (h : Txu w A S l) (y : Nat) (hy : y < 18446744073709551616) (pat : List UInt8) (hp : pat.length ≤ maxLen) :
    Calls Tryd.prog 8 #[.agg #[.string ⟨S.toArray⟩, .slice A l.length c], .int .u64 (y : Nat), .string ⟨pat.toArray⟩] w fun e w' => e = .returned (.bool true) ∧ Below w.heap.size w w' := by
  have HS := Lib.hid KS
  have HF := Lib.hid h.hf
  have HT := Lib.hid (grow_txu h)
  unfold maxLen at hp
  obtain ⟨a1, a2⟩ := alT_1
  obtain ⟨r1, hr1⟩ : ∃ r, subS [97, 97] [(1, 2)] 1 0 0 [97] [98] true = r := ⟨_, rfl⟩
  rw [hr1] at a1 a2
  have HR1 := Lib.hid hr1
  clear hr1 h
  obtain ⟨⟨⟨ea1, ES1, el1, EX1, em1⟩, q1⟩, n1⟩ := r1
  dsimp only at a1 a2
  subst a1 a2
  have HD1 : Hid (∀ wx A c, Below w.heap.size w wx → Txu wx A [97, 97] [(1, 2)] → Calls Tryd.prog 11 #[.agg #[.string ⟨#[97, 97]⟩, .slice A 1 c], .int .u64 1, .agg #[.int .i64 0, .int .i64 0, .string ⟨#[97]⟩, .string ⟨#[98]⟩, .bool true]] wx fun e w' => ∃ A4 c4 B4 d4, e = .returned (.tuple #[.agg #[.int .i64 ea1, .string ⟨ES1.toArray⟩, .slice A4 el1.length c4, .string ⟨EX1.toArray⟩, .slice B4 em1.length d4], .int .i64 2, .int .i64 0]) ∧ Below wx.heap.size wx w') := fun wx A c hb hx => by
    have := HS.out.do_ A c [97, 97] [(1, 2)] 1 0 0 [97] [98] true wx hb hx (by decide) (by decide) (by decide) (by decide) (by decide) (by decide) (by decide)
    rw [HR1.out] at this
    refine this.mono ?_
    rintro e w' ⟨A4, c4, B4, d4, rfl, _, _, bb⟩
    exact ⟨A4, c4, B4, d4, rfl, bb⟩
  clear HR1
  have B0 : Below w.heap.size w (w.alloc (.cells #[.string ⟨S.toArray⟩, .slice A l.length c] 24)) := (Below.refl _ _).alloc (Nat.le_refl _) _
  have K := Lib.hid ((grow_new w 24 #[.string ⟨S.toArray⟩, .slice A l.length c]).and (grow_bel B0))
  clear B0
  go_enter Tryd.func8, Tryd.ntmps8
  go_upto_region 1 with fail
  change Code.wp _ _ _ _ (w.alloc (.cells #[.string ⟨S.toArray⟩, .slice A l.length c] 24))
  generalize w.alloc (.cells #[.string ⟨S.toArray⟩, .slice A l.length c] 24) = wa at *
  have TX : Hid (Txu (wa.alloc (.cells #[.int .u64 1, .int .i64 2] 51)) (some ⟨wa.heap.size, 0, none⟩) [97, 97] [(1, 2)]) := ⟨by unfold maxLen; decide, by intro r hr; simp at hr; subst hr; simp, by unfold maxLen; decide, by have := row_newL wa 51 [.int .u64 1, .int .i64 2]; simpa [flatR] using this⟩
  go_upto_region 2 with fail
  have Kt := grow_new (wa.alloc (.cells #[.int .u64 1, .int .i64 2] 51)) 24 #[.string ⟨#[97, 97]⟩, .slice (some ⟨wa.heap.size, 0, none⟩) 1 1]
  rw [World.size_alloc] at Kt
  have Kx := Grow.alloc (grow_txu TX.out) (.cells #[.string ⟨#[97, 97]⟩, .slice (some ⟨wa.heap.size, 0, none⟩) 1 1] 24)
  have K2 := Lib.hid (((K.out.alloc (.cells #[.int .u64 1, .int .i64 2] 51)).alloc (.cells #[.string ⟨#[97, 97]⟩, .slice (some ⟨wa.heap.size, 0, none⟩) 1 1] 24)).and (Kt.and Kx))
  clear Kt Kx TX K
  generalize (wa.alloc (.cells #[.int .u64 1, .int .i64 2] 51)).alloc (.cells #[.string ⟨#[97, 97]⟩, .slice (some ⟨wa.heap.size, 0, none⟩) 1 1] 24) = wb at *
  obtain ⟨y0, y1⟩ := txt_cells K2.out.now.2.1
  go_upto_region 3 with (go_at_call 11; refine (HD1.out _ _ _ K2.out.now.1.2 K2.out.now.2.2).mono ?_; rintro e w2 ⟨A1, c1, B1, d1, rfl, bb⟩; have K := Lib.hid ((K2.out.step bb).alloc (.cells #[.int .i64 ea1, .string ⟨ES1.toArray⟩, .slice A1 el1.length c1, .string ⟨EX1.toArray⟩, .slice B1 em1.length d1] 32)); clear bb y0 y1)
  generalize w2.heap.size = h1 at *
  generalize w2.alloc (.cells #[.int .i64 ea1, .string ⟨ES1.toArray⟩, .slice A1 el1.length c1, .string ⟨EX1.toArray⟩, .slice B1 em1.length d1] 32) = w3 at *
  clear K2 HD1
  have KK : Hid (Grow w3 (fun w' => Blk w' w.heap.size 24 #[.string ⟨S.toArray⟩, .slice A l.length c] ∧ Below w.heap.size w w')) := fun w' hb => (K.out w' hb).1
  replace K := KK
  clear KK
  have HFI := Lib.hid (fun wx => lawFits14_any A c S l wx)
  have HGD := Lib.hid (fun wx (hb0 : Below w.heap.size w wx) => refTGood_any A c wx.heap.size S l wx (Nat.le_refl _) (HT.out _ hb0))
  have HFF : Hid ((decide (S.length ≤ 1024) && decide (l.length ≤ 5000)) = true → S.length ≤ 1024 ∧ l.length ≤ 5000) := fun e => by simpa using e
  generalize (decide (S.length ≤ 1024) && decide (l.length ≤ 5000)) = fj at *
  obtain ⟨gd, hgd⟩ : ∃ g, goodT S l = g := ⟨_, rfl⟩
  rw [hgd] at HGD
  have HGG := Lib.hid hgd
  clear hgd
  obtain ⟨y0, y1⟩ := txt_cells K.out.now.1
  cases fj with
  | false =>
    go_wp2_with (go_at_call 19; refine (HFI.out _).mono ?_; rintro e w4 ⟨rfl, bb⟩; replace K := Lib.hid (K.out.step bb); clear bb)
    go_ret
    exact ⟨rfl, K.out.now.2⟩
  | true =>
    obtain ⟨l1, l2⟩ := HFF.out rfl
    by_cases hp6 : (pat.length : Int) > 60
    · have g6 : decide ((pat.length : Int) > 60) = true := decide_eq_true hp6
      go_wp2_with (go_at_call 19; refine (HFI.out _).mono ?_; rintro e w4 ⟨rfl, bb⟩; replace K := Lib.hid (K.out.step bb); clear bb)
      go_ret
      exact ⟨rfl, K.out.now.2⟩
    · have g6 : decide ((pat.length : Int) > 60) = false := decide_eq_false hp6
      cases gd with
      | false =>
        go_wp2_with (first
          | (go_at_call 19; refine (HFI.out _).mono ?_; rintro e w4 ⟨rfl, bb⟩; replace K := Lib.hid (K.out.step bb); clear bb y0 y1; obtain ⟨y0, y1⟩ := txt_cells K.out.now.1)
          | (go_at_call 20; refine (HGD.out _ K.out.now.2).mono ?_; rintro e w5 ⟨rfl, bb⟩; replace K := Lib.hid (K.out.step bb); clear bb))
        go_ret
        exact ⟨rfl, K.out.now.2⟩
      | true =>
        go_upto_region 8 with (first
          | (go_at_call 19; refine (HFI.out _).mono ?_; rintro e w4 ⟨rfl, bb⟩; replace K := Lib.hid (K.out.step bb); clear bb y0 y1; obtain ⟨y0, y1⟩ := txt_cells K.out.now.1)
          | (go_at_call 20; refine (HGD.out _ K.out.now.2).mono ?_; rintro e w5 ⟨rfl, bb⟩; replace K := Lib.hid (K.out.step bb); clear bb y0 y1; obtain ⟨y0, y1⟩ := txt_cells K.out.now.1))
        go_loopw [6, 11, 57] (fun _ _ i wr => ∃ k : Nat, k ≤ S.length ∧ i = .int .i64 k ∧ Hid ((1 : UInt8) ∉ S.take k) ∧ wr = w5) (fun _ _ i _ => S.length - (intOf i).toNat)
        case atStart => exact ⟨0, Nat.zero_le _, rfl, fun hx => by simp at hx, rfl⟩
        case round =>
          obtain ⟨k, hk, rfl, hn1, rfl⟩ := hrel
          by_cases hlt : k < S.length
          · have hg1 := byte_atS S k hlt
            have HTK : Hid (S.take (k + 1) = S.take k ++ [S[k]]) := List.take_succ_eq_append_getElem hlt
            have q1 : (k : Int) < (S.length : Int) := by omega
            generalize S[k] = d at *
            by_cases hd : d = 1
            · have e1 := one_yes hd
              clear hd
              go_wp2_with fail
              go_ret
              exact ⟨rfl, K.out.now.2⟩
            · have e1 := one_no hd
              have HN : Hid ((1 : UInt8) ∉ S.take (k + 1)) := by
                show _ ∉ _
                rw [HTK.out, List.mem_append, List.mem_singleton]
                exact fun h => h.elim hn1.out (fun e => hd e.symm)
              clear hd
              go_wp2_with fail
              go_roundw
              case rel => exact ⟨k + 1, by omega, by go_num, HN, trivial⟩
              case measure => simp [intOf]; omega
          · obtain rfl : k = S.length := by omega
            have HN1 : Hid ((1 : UInt8) ∉ S) := by
              have := hn1.out
              rwa [List.take_length] at this
            clear hn1 hlt
            have hgs := goodT_size HGG.out
            have hv : viewOf S l y = (viewTo S (bytesOf l) y, 0) := if_pos HGG.out
            have hvl : (viewTo S (bytesOf l) y).length = S.length := viewTo_len hgs.2.2
            have HVW := Lib.hid (fun wx (hb0 : Below w.heap.size w wx) => stpView_any A c wx.heap.size S l y hy wx (Nat.le_refl _) (HT.out _ hb0))
            rw [hv] at HVW
            obtain ⟨V, hV⟩ : ∃ V, viewTo S (bytesOf l) y = V := ⟨_, rfl⟩
            rw [hV] at HVW hvl
            have HVE := Lib.hid hV
            have HCO := Lib.hid (fun wx => linCount_any V (by omega) wx)
            have hcl := countL_le V
            have hcp : 0 < countL V := by unfold countL; omega
            clear hV hv hgs
            have HD := Lib.hid (fun wx (hb0 : Below w.heap.size w wx) => HS.out.do_ A c S l y 0 ((countL V : Int) - 1) pat [1] true wx hb0 (HT.out _ hb0) (by omega) l2 hy (by decide) (by omega) (by omega) (by decide))
            obtain ⟨v, hv⟩ : ∃ v, subS S l y 0 ((countL V : Int) - 1) pat [1] true = v := ⟨_, rfl⟩
            rw [hv] at HD
            have HV := Lib.hid hv
            obtain ⟨⟨⟨ea, ES, el, EX, em⟩, n⟩, er⟩ := v
            have HO := Lib.hid (okS (S := S) (l := l) HF.out hy hv)
            have hcb : (countL V : Int) ≤ 5000 := by omega
            clear hv hvl hcl
            go_upto_region 14 with (go_at_call 21; refine (HVW.out _ K.out.now.2).mono ?_; rintro e w6 ⟨rfl, bb⟩; replace K := Lib.hid (K.out.step bb); clear bb y0 y1)
            go_upto_region 15 with (go_at_call 22; refine (HCO.out _).mono ?_; rintro e w7 ⟨rfl, bb⟩; replace K := Lib.hid (K.out.step bb); clear bb)
            obtain ⟨y0, y1⟩ := txt_cells K.out.now.1
            go_upto_region 16 with (go_at_call 11; refine (HD.out _ K.out.now.2).mono ?_; rintro e w8 ⟨A4, c4, B4, d4, rfl, rA, rB, bb⟩; dsimp only at rA rB ⊢; have KE := Lib.hid ((K.out.step bb).evar (c := c4) (d := d4) (a := ea) (A := A4) (B := B4) (OkT.txt2 HO.out.1 rA) (OkT.txt2 HO.out.2 rB)); clear bb rA rB y0 y1)
            generalize w8.heap.size = g3 at *
            generalize w8.alloc (.cells #[.int .i64 ea, .string ⟨ES.toArray⟩, .slice A4 el.length c4, .string ⟨EX.toArray⟩, .slice B4 em.length d4] 32) = w9 at *
            obtain ⟨y0, y1⟩ := txt_cells KE.out.now.2.1
            obtain ⟨v0, v1, v2, v3, v4⟩ := ed_cells KE.out.now.1.1
            clear K HVW HCO HD HGD HFI
            by_cases her : er = 0
            · subst her
              obtain ⟨U, q, e2, q2, p1, p2, p3⟩ := sub_swaps HGG.out HVE.out HN1.out (by omega) HV.out
              dsimp only at p1
              obtain ⟨fa, FS, fl, FX, fm⟩ := e2
              dsimp only at p3
              have HOU := Lib.hid (okT_apply (S := S) (l := l) (X := EX) (m := em) HF.out HO.out.2.2.1 ea ES el)
              rw [p1] at HOU
              have hq5 : q.length ≤ 5000 := okS_small p1
              have HO2 := Lib.hid (okS (S := U) (l := q) HOU.out.2.1 hy p2)
              have HOS := Lib.hid (okT_apply (S := U) (l := q) (X := FX) (m := fm) HOU.out.2.1 HO2.out.2.2.1 fa FS fl)
              rw [p3] at HOS
              have HA1 := Lib.hid p1
              have HA2 := Lib.hid p3
              have hU : U.length ≤ 4096 := HOU.out.1
              have HD2 := Lib.hid (fun A6 c6 wx (hb0 : Below w.heap.size w wx) (hx : Txu wx A6 U q) => HS.out.do_ A6 c6 U q y 0 ((countL V : Int) - 1) [1] pat true wx hb0 hx (by omega) hq5 hy (by decide) (by omega) (by decide) (by omega))
              rw [p2] at HD2
              clear p1 p2 p3 hU hq5
              go_upto_region 19 with (go_at_call 23; refine (ediApply_any A A4 B4 c c4 d4 S l ea ES el EX em _ (HT.out _ KE.out.now.2.2) KE.out.now.1.2.1 KE.out.now.1.2.2).mono ?_; rw [HA1.out]; rintro e wc ⟨A6, c6, rfl, own6, bb⟩; dsimp only at own6 ⊢; have KU := Lib.hid ((KE.out.step bb).var (c := c6) (OkT.txt2 HOU.out (Row.of_own own6))); clear bb own6 y0 y1 v0 v1 v2 v3 v4)
              generalize wc.heap.size = g5 at *
              generalize wc.alloc (.cells #[.string ⟨U.toArray⟩, .slice A6 q.length c6] 24) = wd at *
              obtain ⟨u0, u1⟩ := txt_cells KU.out.now.1.1
              clear KE
              go_upto_region 20 with (go_at_call 11; refine (HD2.out A6 c6 _ KU.out.now.2.2.2 KU.out.now.1.2).mono ?_; rintro e wf ⟨A8, c8, B8, d8, rfl, rA, rB, bb⟩; dsimp only at rA rB ⊢; have KV := Lib.hid ((KU.out.step bb).evar (c := c8) (d := d8) (a := fa) (A := A8) (B := B8) (OkT.txt2 HO2.out.1 rA) (OkT.txt2 HO2.out.2 rB)); clear bb rA rB u0 u1)
              generalize wf.heap.size = g7 at *
              generalize wf.alloc (.cells #[.int .i64 fa, .string ⟨FS.toArray⟩, .slice A8 fl.length c8, .string ⟨FX.toArray⟩, .slice B8 fm.length d8] 32) = wg at *
              obtain ⟨u0, u1⟩ := txt_cells KV.out.now.2.1.1
              obtain ⟨v0, v1, v2, v3, v4⟩ := ed_cells KV.out.now.1.1
              clear KU
              go_upto_region 21 with (go_at_call 23; refine (ediApply_any A6 A8 B8 c6 c8 d8 U q fa FS fl FX fm _ KV.out.now.2.1.2 KV.out.now.1.2.1 KV.out.now.1.2.2).mono ?_; rw [HA2.out]; rintro e wh ⟨A9, c9, rfl, own9, bb⟩; dsimp only at own9 ⊢; have KW := Lib.hid ((KV.out.step bb).var (c := c9) (OkT.txt2 HOS.out (Row.of_own own9))); clear bb own9 u0 u1 v0 v1 v2 v3 v4)
              generalize wh.heap.size = g9 at *
              generalize wh.alloc (.cells #[.string ⟨S.toArray⟩, .slice A9 q2.length c9] 24) = wi at *
              obtain ⟨u0, u1⟩ := txt_cells KW.out.now.1.1
              obtain ⟨y0, y1⟩ := txt_cells KW.out.now.2.2.2.2.1
              have en : ((n : Int) == (n : Int)) = true := by simp
              go_wp2_with fail
              go_ret
              exact ⟨by simp, KW.out.now.2.2.2.2.2⟩
            · have g9 : ((er : Int) != 0) = true := by rw [bne_iff_ne]; omega
              go_wp2_with fail
              go_ret
              exact ⟨rfl, KE.out.now.2.2⟩
end Go.Proofs.YtgmeamefbfgbgaaDoor

/-
  Where what comes has no byte of what is looked for, nothing of it is left: layer 15, SubstNone.
-/
import Derived.Test.YtgmeamefbfgbgaaDoorSuAlv2
import Derived.Test.YtgmeamefbfgbgaaDoorHsApply
import Derived.Test.YtgmeamefbfgbgaaDoorM07e
import Derived.Test.YtgmeamefbfgbgaaDoorSuLawI
import Derived.Test.YtgmeamefbfgbgaaDoorSuComm
namespace Go.Proofs.YtgmeamefbfgbgaaDoor
open Go.RowKit
set_option maxRecDepth 100000

theorem sub_none {S : List UInt8} {l : List RunP} {y : Nat} {a b : Int} {pat rep : List UInt8} {e : EdP} {n : Nat} (h : subS S l y a b pat rep true = ((e, n), 0)) (hr0 : 0 < rep.length) (hr : ∀ x ∈ rep, x ∉ pat ∧ x ≠ 10) :
    ∃ U q, applyE S l e.a e.S e.l e.X e.m = ((U, q), 0) ∧ (subS U q y a b pat rep true).2 = 6 := by
  obtain ⟨a', b', V, P, rfl, rfl, hP, H⟩ := subS_zero (by rw [h])
  rw [subS_ok H hP] at h
  injection h with h _
  injection h with he _
  subst he
  have ha := H.apply rfl rfl
  obtain ⟨c1, c2⟩ := H.none_left hr0 hr rfl rfl rfl
  have hl1 := H.len S rep rfl rfl
  have hl2 := H.len (bytesOf l) (List.replicate rep.length y) H.lab List.length_replicate
  have hsh := H.short hl1
  have hle := H.le
  have hlab := H.lab
  refine ⟨_, _, ha, subS_none (V := viewTo _ _ y) ?_ (by rw [bytesOf_pack]) ?_ (by rw [bytesOf_pack]; exact c2)⟩
  · refine (goodT_iff _ _).2 ⟨goodB_pack ?_, ?_⟩
    · rw [List.length_append, List.length_append, List.length_take, List.length_drop]; omega
    · rw [bytesOf_pack, List.length_append, List.length_append, List.length_append, List.length_append, List.length_take, List.length_take, List.length_drop, List.length_drop]; omega
  · have h1 := H.ab; have h2 := H.bc; have h3 := H.m; have h4 := H.r; have h5 := H.nl
    unfold mayS
    rw [c1, decide_eq_true ⟨by omega, by omega, by omega, by omega, by omega⟩, decide_eq_true h5]; rfl
theorem cat_nl (p : List UInt8) : (({ data := p.toArray } : ByteArray) ++ ({ data := #[10] } : ByteArray)) = ⟨(p ++ [10]).toArray⟩ := by
  apply ByteArray.ext
  simp [ByteArray.data_append]
set_option maxHeartbeats 8000000 in
theorem substNone_walk (w : World) (KS : SubstSays w) (A : Option Addr) (c : Nat) (S : List UInt8) (l : List RunP) (h : Txu w A S l) (y : Nat) (hy : y < 18446744073709551616) (a b : Int) (pat rep : List UInt8) (ev : Bool) (ha : -9223372036854775808 ≤ a ∧ a ≤ 9223372036854775807) (hb : -9223372036854775808 ≤ b ∧ b ≤ 9223372036854775807) (hp : pat.length ≤ maxLen) (hr : rep.length ≤ maxLen) :
    Calls Tryd.prog 5 #[.agg #[.string ⟨S.toArray⟩, .slice A l.length c], .int .u64 (y : Nat), .agg #[.int .i64 a, .int .i64 b, .string ⟨pat.toArray⟩, .string ⟨rep.toArray⟩, .bool ev]] w fun e w' => e = .returned (.bool true) ∧ Below w.heap.size w w' := by
  have HS := Lib.hid KS
  have HF := Lib.hid h.hf
  have HT := Lib.hid (grow_txu h)
  have K := Lib.hid (boxesE2 w 24 28 #[.string ⟨S.toArray⟩, .slice A l.length c] #[.int .i64 a, .int .i64 b, .string ⟨pat.toArray⟩, .string ⟨rep.toArray⟩, .bool ev])
  have HFS := Lib.hid (fun wx => lawFitS_any A c S l a b pat rep ev hp hr wx)
  have HFF := Lib.hid (fitS_facts (S := S) (l := l) (pat := pat) (rep := rep))
  unfold maxLen at hp hr
  generalize fitS S l pat rep = fj at *
  clear h KS
  go_enter Tryd.func5, Tryd.ntmps5
  go_upto_region 1 with fail
  generalize (w.alloc (.cells #[.string ⟨S.toArray⟩, .slice A l.length c] 24)).alloc (.cells #[.int .i64 a, .int .i64 b, .string ⟨pat.toArray⟩, .string ⟨rep.toArray⟩, .bool ev] 28) = wa at *
  go_upto_region 3 with (go_at_call 9; refine (aliveS_any _ (HS.out.at K.out.now.2.2)).mono ?_; rintro e w1 ⟨rfl, bb⟩; replace K := Lib.hid (K.out.step bb); clear bb)
  obtain ⟨y0, y1⟩ := txt_cells K.out.now.1
  obtain ⟨x0, x1, x2, x3, x4⟩ := job_cells15 K.out.now.2.1
  cases fj with
  | false =>
    go_wp2_with (go_at_call 10; refine (HFS.out _).mono ?_; rintro e w2 ⟨rfl, bb⟩; replace K := Lib.hid (K.out.step bb); clear bb)
    go_ret
    exact ⟨rfl, K.out.now.2.2⟩
  | true =>
    obtain ⟨l1, l2, l3, l4⟩ := HFF.out rfl
    have HCM := Lib.hid (fun wx => lawCommon_any rep (pat ++ [10]) l4 (by simp; omega) wx)
    have HCF := Lib.hid (fun e => comS_not (p := rep) (q := pat ++ [10]) e)
    have hlen : ¬ 9223372036854775807 < pat.length + 1 := by omega
    generalize comS rep (pat ++ [10]) = cm at *
    by_cases h0 : rep.length = 0
    · have g0 : ((rep.length : Int) == 0) = true := by rw [beq_iff_eq]; omega
      go_wp2_with (first
        | (go_at_call 10; refine (HFS.out _).mono ?_; rintro e w2 ⟨rfl, bb⟩; replace K := Lib.hid (K.out.step bb); clear bb y0 y1 x0 x1 x2 x3 x4; obtain ⟨y0, y1⟩ := txt_cells K.out.now.1; obtain ⟨x0, x1, x2, x3, x4⟩ := job_cells15 K.out.now.2.1))
      go_ret
      exact ⟨rfl, K.out.now.2.2⟩
    · have g0 : ((rep.length : Int) == 0) = false := by rw [beq_eq_false_iff_ne]; omega
      by_cases h1 : (rep.length : Int) > 64
      · have g1 : decide ((rep.length : Int) > 64) = true := decide_eq_true h1
        go_wp2_with (first
          | (go_at_call 10; refine (HFS.out _).mono ?_; rintro e w2 ⟨rfl, bb⟩; replace K := Lib.hid (K.out.step bb); clear bb y0 y1 x0 x1 x2 x3 x4; obtain ⟨y0, y1⟩ := txt_cells K.out.now.1; obtain ⟨x0, x1, x2, x3, x4⟩ := job_cells15 K.out.now.2.1))
        go_ret
        exact ⟨rfl, K.out.now.2.2⟩
      · have g1 : decide ((rep.length : Int) > 64) = false := decide_eq_false h1
        by_cases h2 : (pat.length : Int) > 64
        · have g2 : decide ((pat.length : Int) > 64) = true := decide_eq_true h2
          go_wp2_with (first
            | (go_at_call 10; refine (HFS.out _).mono ?_; rintro e w2 ⟨rfl, bb⟩; replace K := Lib.hid (K.out.step bb); clear bb y0 y1 x0 x1 x2 x3 x4; obtain ⟨y0, y1⟩ := txt_cells K.out.now.1; obtain ⟨x0, x1, x2, x3, x4⟩ := job_cells15 K.out.now.2.1))
          go_ret
          exact ⟨rfl, K.out.now.2.2⟩
        · have g2 : decide ((pat.length : Int) > 64) = false := decide_eq_false h2
          cases cm with
          | true =>
            go_wp2_with (first
              | (go_at_call 10; refine (HFS.out _).mono ?_; rintro e w2 ⟨rfl, bb⟩; replace K := Lib.hid (K.out.step bb); clear bb y0 y1 x0 x1 x2 x3 x4; obtain ⟨y0, y1⟩ := txt_cells K.out.now.1; obtain ⟨x0, x1, x2, x3, x4⟩ := job_cells15 K.out.now.2.1)
              | (go_at_call 16; rw [cat_nl]; refine (HCM.out _).mono ?_; rintro e w2c ⟨rfl, bb⟩; replace K := Lib.hid (K.out.step bb); clear bb y0 y1 x0 x1 x2 x3 x4; obtain ⟨y0, y1⟩ := txt_cells K.out.now.1; obtain ⟨x0, x1, x2, x3, x4⟩ := job_cells15 K.out.now.2.1; have z4 := K.out.now.2.1.frozen 4))
            go_ret
            exact ⟨rfl, K.out.now.2.2⟩
          | false =>
            go_upto_region 6 with (first
              | (go_at_call 10; refine (HFS.out _).mono ?_; rintro e w2 ⟨rfl, bb⟩; replace K := Lib.hid (K.out.step bb); clear bb y0 y1 x0 x1 x2 x3 x4; obtain ⟨y0, y1⟩ := txt_cells K.out.now.1; obtain ⟨x0, x1, x2, x3, x4⟩ := job_cells15 K.out.now.2.1)
              | (go_at_call 16; rw [cat_nl]; refine (HCM.out _).mono ?_; rintro e w2c ⟨rfl, bb⟩; replace K := Lib.hid (K.out.step bb); clear bb y0 y1 x0 x1 x2 x3 x4; obtain ⟨y0, y1⟩ := txt_cells K.out.now.1; obtain ⟨x0, x1, x2, x3, x4⟩ := job_cells15 K.out.now.2.1; have z4 := K.out.now.2.1.frozen 4))
            have KB : Blk (w2c.setCell ⟨w.heap.size + 1, 4, none⟩ (.bool true)) (w.heap.size + 1) 28 #[.int .i64 a, .int .i64 b, .string ⟨pat.toArray⟩, .string ⟨rep.toArray⟩, .bool true] := K.out.now.2.1.set_ 4 _
            have KT := K.out.now.1.far (p := ⟨w.heap.size + 1, 4, none⟩) (by show w.heap.size ≠ w.heap.size + 1; omega) (.bool true)
            have KW := K.out.now.2.2.setCell (p := ⟨w.heap.size + 1, 4, none⟩) (by show w.heap.size ≤ w.heap.size + 1; omega) (.bool true)
            replace K := Lib.hid ((grow_blk KT).and ((grow_blk KB).and (grow_bel KW)))
            clear KB KT KW z4 y0 y1 x0 x1 x2 x3 x4
            generalize w2c.setCell ⟨w.heap.size + 1, 4, none⟩ (.bool true) = w2b at *
            obtain ⟨y0, y1⟩ := txt_cells K.out.now.1
            obtain ⟨x0, x1, x2, x3, x4⟩ := job_cells15 K.out.now.2.1
            have HD := Lib.hid (fun wx (hb0 : Below w.heap.size w wx) => HS.out.do_ A c S l y a b pat rep true wx hb0 (HT.out _ hb0) l1 l2 hy ha hb l3 l4)
            obtain ⟨v, hv⟩ : ∃ v, subS S l y a b pat rep true = v := ⟨_, rfl⟩
            rw [hv] at HD
            have HV := Lib.hid hv
            obtain ⟨⟨⟨ea, ES, el, EX, em⟩, n⟩, er⟩ := v
            have HO := Lib.hid (okS (S := S) (l := l) HF.out hy hv)
            clear hv
            go_upto_region 7 with (go_at_call 11; refine (HD.out _ K.out.now.2.2).mono ?_; rintro e w3 ⟨A4, c4, B4, d4, rfl, rA, rB, bb⟩; dsimp only at rA rB ⊢; have KE := Lib.hid ((K.out.step bb).evar (c := c4) (d := d4) (a := ea) (A := A4) (B := B4) (OkT.txt2 HO.out.1 rA) (OkT.txt2 HO.out.2 rB)); clear bb rA rB y0 y1 x0 x1 x2 x3 x4)
            generalize w3.heap.size = g3 at *
            generalize w3.alloc (.cells #[.int .i64 ea, .string ⟨ES.toArray⟩, .slice A4 el.length c4, .string ⟨EX.toArray⟩, .slice B4 em.length d4] 32) = w4 at *
            obtain ⟨y0, y1⟩ := txt_cells KE.out.now.2.1
            obtain ⟨x0, x1, x2, x3, x4⟩ := job_cells15 KE.out.now.2.2.1
            obtain ⟨v0, v1, v2, v3, v4⟩ := ed_cells KE.out.now.1.1
            by_cases her : er = 0
            · subst her
              obtain ⟨U, q, hap, h6⟩ := sub_none HV.out (by omega) (fun x hx => by
                have := HCF.out trivial x hx
                rw [List.mem_append, List.mem_singleton, not_or] at this
                exact this)
              dsimp only at hap
              have HAP := Lib.hid hap
              have HOU := Lib.hid (okT_apply (S := S) (l := l) (X := EX) (m := em) HF.out HO.out.2.2.1 ea ES el)
              rw [hap] at HOU
              have HD2 := Lib.hid (fun A6 c6 wx (hb0 : Below w.heap.size w wx) (hx : Txu wx A6 U q) (hq : q.length ≤ 5000) => HS.out.do_ A6 c6 U q y a b pat rep true wx hb0 hx (by have := HOU.out.1; dsimp only at this; omega) hq hy ha hb l3 l4)
              have hq5 : q.length ≤ 5000 := by
                exact okS_small hap
              obtain ⟨v2, hv2⟩ : ∃ v, subS U q y a b pat rep true = v := ⟨_, rfl⟩
              rw [hv2] at HD2 h6
              clear hap hv2
              obtain ⟨⟨⟨ea2, ES2, el2, EX2, em2⟩, n2⟩, er2⟩ := v2
              dsimp only at h6
              subst h6
              go_upto_region 10 with (go_at_call 15; refine (refEApply_any A A4 B4 c c4 d4 S l ea ES el EX em _ (HT.out _ KE.out.now.2.2.2) KE.out.now.1.2.1 KE.out.now.1.2.2).mono ?_; rw [HAP.out]; rintro e w5 ⟨A6, c6, rfl, own6, bb⟩; dsimp only at own6 ⊢; have KU := Lib.hid ((KE.out.step bb).var (c := c6) (OkT.txt2 HOU.out (Row.of_own own6))); clear bb own6 y0 y1 x0 x1 x2 x3 x4 v0 v1 v2 v3 v4)
              generalize w5.heap.size = g5 at *
              generalize w5.alloc (.cells #[.string ⟨U.toArray⟩, .slice A6 q.length c6] 24) = w6 at *
              obtain ⟨x0, x1, x2, x3, x4⟩ := job_cells15 KU.out.now.2.2.2.1
              obtain ⟨u0, u1⟩ := txt_cells KU.out.now.1.1
              go_wp2_with (go_at_call 11; refine (HD2.out A6 c6 _ KU.out.now.2.2.2.2 KU.out.now.1.2 hq5).mono ?_; rintro e w7 ⟨A8, c8, B8, d8, rfl, _, _, bb⟩; have KV := Lib.hid (KU.out.step bb); clear bb)
              go_ret
              exact ⟨rfl, (KV.out.alloc (.cells #[.int .i64 ea2, .string ⟨ES2.toArray⟩, .slice A8 el2.length c8, .string ⟨EX2.toArray⟩, .slice B8 em2.length d8] 32)).now.2.2.2.2⟩
            · have g9 : ((er : Int) != 0) = true := by rw [bne_iff_ne]; omega
              go_wp2_with fail
              go_ret
              exact ⟨rfl, KE.out.now.2.2.2⟩
end Go.Proofs.YtgmeamefbfgbgaaDoor

/-
  With what is looked for in its own place all bytes stay: layer 15, SubstItself.
-/
import Derived.Test.YtgmeamefbfgbgaaDoorSuAlv2
import Derived.Test.YtgmeamefbfgbgaaDoorHsApply
import Derived.Test.YtgmeamefbfgbgaaDoorM07e
import Derived.Test.YtgmeamefbfgbgaaDoorSuOk
namespace Go.Proofs.YtgmeamefbfgbgaaDoor
open Go.RowKit
set_option maxRecDepth 100000

theorem sub_itself {S : List UInt8} {l : List RunP} {y : Nat} {a b : Int} {pat : List UInt8} {ev : Bool} {e : EdP} {n : Nat} (h : subS S l y a b pat pat ev = ((e, n), 0)) : ∃ q, applyE S l e.a e.S e.l e.X e.m = ((S, q), 0) := by
  obtain ⟨a', b', V, P, rfl, rfl, hP, H⟩ := subS_zero (by rw [h])
  rw [subS_ok H hP] at h
  injection h with h _
  injection h with he _
  subst he
  have := H.apply rfl rfl
  rw [H.itself] at this
  exact ⟨_, this⟩
set_option maxHeartbeats 8000000 in
theorem substItself_walk (w : World) (KS : SubstSays w) (A : Option Addr) (c : Nat) (S : List UInt8) (l : List RunP) (h : Txu w A S l) (y : Nat) (hy : y < 18446744073709551616) (a b : Int) (pat rep : List UInt8) (ev : Bool) (ha : -9223372036854775808 ≤ a ∧ a ≤ 9223372036854775807) (hb : -9223372036854775808 ≤ b ∧ b ≤ 9223372036854775807) (hp : pat.length ≤ maxLen) (hr : rep.length ≤ maxLen) :
    Calls Tryd.prog 6 #[.agg #[.string ⟨S.toArray⟩, .slice A l.length c], .int .u64 (y : Nat), .agg #[.int .i64 a, .int .i64 b, .string ⟨pat.toArray⟩, .string ⟨rep.toArray⟩, .bool ev]] w fun e w' => e = .returned (.bool true) ∧ Below w.heap.size w w' := by
  have HS := Lib.hid KS
  have HF := Lib.hid h.hf
  have HT := Lib.hid (grow_txu h)
  have K := Lib.hid (boxesE2 w 24 28 #[.string ⟨S.toArray⟩, .slice A l.length c] #[.int .i64 a, .int .i64 b, .string ⟨pat.toArray⟩, .string ⟨rep.toArray⟩, .bool ev])
  have HFS := Lib.hid (fun wx => lawFitS_any A c S l a b pat rep ev hp hr wx)
  have HFF := Lib.hid (fitS_facts (S := S) (l := l) (pat := pat) (rep := rep))
  unfold maxLen at hp hr
  generalize fitS S l pat rep = fj at *
  clear h KS
  go_enter Tryd.func6, Tryd.ntmps6
  go_upto_region 1 with fail
  generalize (w.alloc (.cells #[.string ⟨S.toArray⟩, .slice A l.length c] 24)).alloc (.cells #[.int .i64 a, .int .i64 b, .string ⟨pat.toArray⟩, .string ⟨rep.toArray⟩, .bool ev] 28) = wa at *
  go_upto_region 3 with (go_at_call 9; refine (aliveS_any _ (HS.out.at K.out.now.2.2)).mono ?_; rintro e w1 ⟨rfl, bb⟩; replace K := Lib.hid (K.out.step bb); clear bb)
  obtain ⟨y0, y1⟩ := txt_cells K.out.now.1
  obtain ⟨x0, x1, x2, x3, x4⟩ := job_cells15 K.out.now.2.1
  cases fj with
  | false =>
    go_wp2_with (go_at_call 10; refine (HFS.out _).mono ?_; rintro e w2 ⟨rfl, bb⟩; replace K := Lib.hid (K.out.step bb); clear bb)
    go_ret
    exact ⟨rfl, K.out.now.2.2⟩
  | true =>
    obtain ⟨l1, l2, l3, l4⟩ := HFF.out rfl
    go_upto_region 6 with (go_at_call 10; refine (HFS.out _).mono ?_; rintro e w2 ⟨rfl, bb⟩; replace K := Lib.hid (K.out.step bb); clear bb y0 y1 x0 x1 x2 x3 x4; obtain ⟨y0, y1⟩ := txt_cells K.out.now.1; obtain ⟨x0, x1, x2, x3, x4⟩ := job_cells15 K.out.now.2.1; have z3 := K.out.now.2.1.frozen 3; have z4 := K.out.now.2.1.frozen 4)
    have KB : Blk (w2.setCell ⟨w.heap.size + 1, 3, none⟩ (.string ⟨pat.toArray⟩)) (w.heap.size + 1) 28 #[.int .i64 a, .int .i64 b, .string ⟨pat.toArray⟩, .string ⟨pat.toArray⟩, .bool ev] := K.out.now.2.1.set_ 3 _
    have KT := K.out.now.1.far (p := ⟨w.heap.size + 1, 3, none⟩) (by show w.heap.size ≠ w.heap.size + 1; omega) (.string ⟨pat.toArray⟩)
    have KW := K.out.now.2.2.setCell (p := ⟨w.heap.size + 1, 3, none⟩) (by show w.heap.size ≤ w.heap.size + 1; omega) (.string ⟨pat.toArray⟩)
    replace K := Lib.hid ((grow_blk KT).and ((grow_blk KB).and (grow_bel KW)))
    clear KB KT KW z3 z4 y0 y1 x0 x1 x2 x3 x4
    generalize w2.setCell ⟨w.heap.size + 1, 3, none⟩ (.string ⟨pat.toArray⟩) = w2b at *
    obtain ⟨y0, y1⟩ := txt_cells K.out.now.1
    obtain ⟨x0, x1, x2, x3, x4⟩ := job_cells15 K.out.now.2.1
    have HD := Lib.hid (fun wx (hb0 : Below w.heap.size w wx) => HS.out.do_ A c S l y a b pat pat ev wx hb0 (HT.out _ hb0) l1 l2 hy ha hb l3 l3)
    obtain ⟨v, hv⟩ : ∃ v, subS S l y a b pat pat ev = v := ⟨_, rfl⟩
    rw [hv] at HD
    have HV := Lib.hid hv
    obtain ⟨⟨⟨ea, ES, el, EX, em⟩, n⟩, er⟩ := v
    have HO := Lib.hid (okS (S := S) (l := l) HF.out hy hv)
    clear hv
    go_upto_region 7 with (go_at_call 11; refine (HD.out _ K.out.now.2.2).mono ?_; rintro e w3 ⟨A4, c4, B4, d4, rfl, rA, rB, bb⟩; dsimp only at rA rB ⊢; have KE := Lib.hid ((K.out.step bb).evar (c := c4) (d := d4) (a := ea) (A := A4) (B := B4) (OkT.txt2 HO.out.1 rA) (OkT.txt2 HO.out.2 rB)); clear bb rA rB y0 y1 x0 x1 x2 x3 x4)
    generalize w3.heap.size = g3 at *
    generalize w3.alloc (.cells #[.int .i64 ea, .string ⟨ES.toArray⟩, .slice A4 el.length c4, .string ⟨EX.toArray⟩, .slice B4 em.length d4] 32) = w4 at *
    obtain ⟨y0, y1⟩ := txt_cells KE.out.now.2.1
    obtain ⟨v0, v1, v2, v3, v4⟩ := ed_cells KE.out.now.1.1
    by_cases her : er = 0
    · subst her
      obtain ⟨q, hap⟩ := sub_itself HV.out
      dsimp only at hap
      have HAP := Lib.hid hap
      have HOU := okT_apply (S := S) (l := l) (X := EX) (m := em) HF.out HO.out.2.2.1 ea ES el
      rw [hap] at HOU
      clear hap
      go_wp2_with (go_at_call 15; refine (refEApply_any A A4 B4 c c4 d4 S l ea ES el EX em _ (HT.out _ KE.out.now.2.2.2) KE.out.now.1.2.1 KE.out.now.1.2.2).mono ?_; rw [HAP.out]; rintro e w5 ⟨A6, c6, rfl, own6, bb⟩; dsimp only at own6 ⊢; have KU := Lib.hid (((KE.out.step bb).alloc (.cells #[.string ⟨S.toArray⟩, .slice A6 q.length c6] 24)).and (grow_new w5 24 #[.string ⟨S.toArray⟩, .slice A6 q.length c6])); clear bb own6 y0 y1 v0 v1 v2 v3 v4; obtain ⟨y0, y1⟩ := txt_cells KU.out.now.1.2.1; obtain ⟨u0, u1⟩ := txt_cells KU.out.now.2)
      go_ret
      exact ⟨by simp, KU.out.now.1.2.2.2⟩
    · have g1 : ((er : Int) != 0) = true := by rw [bne_iff_ne]; omega
      go_wp2_with fail
      go_ret
      exact ⟨rfl, KE.out.now.2.2.2⟩
end Go.Proofs.YtgmeamefbfgbgaaDoor

/-
  The text behind has as many bytes more, or less, as each place tells: layer 15, SubstCounts.
-/
import Derived.Test.YtgmeamefbfgbgaaDoorSuAlv2
import Derived.Test.YtgmeamefbfgbgaaDoorHsApply
import Derived.Test.YtgmeamefbfgbgaaDoorM07e
import Derived.Test.YtgmeamefbfgbgaaDoorSuLawI
import Derived.Test.YtgmeamefbfgbgaaDoorSuStan
namespace Go.Proofs.YtgmeamefbfgbgaaDoor
open Go.RowKit
set_option maxRecDepth 100000

theorem sub_count {S : List UInt8} {l : List RunP} {y : Nat} {a b : Int} {pat rep : List UInt8} {ev : Bool} {e : EdP} {n : Nat} (h : subS S l y a b pat rep ev = ((e, n), 0)) :
    ∃ U q, applyE S l e.a e.S e.l e.X e.m = ((U, q), 0) ∧ 1 ≤ n ∧ n ≤ 4096 ∧ (U.length : Int) = (S.length : Int) + (n : Int) * ((rep.length : Int) - (pat.length : Int)) := by
  obtain ⟨a', b', V, P, rfl, rfl, hP, H⟩ := subS_zero (by rw [h])
  rw [subS_ok H hP] at h
  injection h with h _
  injection h with he hn
  subst he hn
  have h1 := H.apart.le
  have h2 := H.le
  have h3 : P.length ≤ P.length * pat.length := Nat.le_mul_of_pos_right _ H.m
  have h4 := goodT_size H.g
  exact ⟨_, _, H.apply rfl rfl, SubP.pos hP, by omega, H.size⟩
theorem txu_nilS {w : World} : Txu w none [] [] := ⟨by simp, by intro r hr; simp at hr, by simp, .inl rfl⟩
theorem mul_nearC {p m r : Nat} (hp : p ≤ 5000) (hm : m ≤ 5000) (hr : r ≤ 5000) : -25000000 ≤ (p : Int) * ((r : Int) - (m : Int)) ∧ (p : Int) * ((r : Int) - (m : Int)) ≤ 25000000 := by
  rw [Int.mul_sub]
  have h1 : p * r ≤ 5000 * 5000 := Nat.mul_le_mul hp hr
  have h2 : p * m ≤ 5000 * 5000 := Nat.mul_le_mul hp hm
  rw [← Int.natCast_mul, ← Int.natCast_mul]
  omega
set_option maxHeartbeats 8000000 in
theorem substCounts_walk (w : World) (KS : SubstSays w) (A : Option Addr) (c : Nat) (S : List UInt8) (l : List RunP) (h : Txu w A S l) (y : Nat) (hy : y < 18446744073709551616) (a b : Int) (pat rep : List UInt8) (ev : Bool) (ha : -9223372036854775808 ≤ a ∧ a ≤ 9223372036854775807) (hb : -9223372036854775808 ≤ b ∧ b ≤ 9223372036854775807) (hp : pat.length ≤ maxLen) (hr : rep.length ≤ maxLen) :
    Calls Tryd.prog 4 #[.agg #[.string ⟨S.toArray⟩, .slice A l.length c], .int .u64 (y : Nat), .agg #[.int .i64 a, .int .i64 b, .string ⟨pat.toArray⟩, .string ⟨rep.toArray⟩, .bool ev]] w fun e w' => e = .returned (.bool true) ∧ Below w.heap.size w w' := by
  have HS := Lib.hid KS
  have HF := Lib.hid h.hf
  have HT := Lib.hid (grow_txu h)
  have K := Lib.hid (boxesE2 w 24 28 #[.string ⟨S.toArray⟩, .slice A l.length c] #[.int .i64 a, .int .i64 b, .string ⟨pat.toArray⟩, .string ⟨rep.toArray⟩, .bool ev])
  have HFS := Lib.hid (fun wx => lawFitS_any A c S l a b pat rep ev hp hr wx)
  have HFF := Lib.hid (fitS_facts (S := S) (l := l) (pat := pat) (rep := rep))
  unfold maxLen at hp hr
  generalize fitS S l pat rep = fj at *
  clear h KS
  go_enter Tryd.func4, Tryd.ntmps4
  go_upto_region 1 with fail
  generalize (w.alloc (.cells #[.string ⟨S.toArray⟩, .slice A l.length c] 24)).alloc (.cells #[.int .i64 a, .int .i64 b, .string ⟨pat.toArray⟩, .string ⟨rep.toArray⟩, .bool ev] 28) = wa at *
  go_upto_region 3 with (go_at_call 9; refine (aliveS_any _ (HS.out.at K.out.now.2.2)).mono ?_; rintro e w1 ⟨rfl, bb⟩; replace K := Lib.hid (K.out.step bb); clear bb)
  obtain ⟨y0, y1⟩ := txt_cells K.out.now.1
  obtain ⟨x0, x1, x2, x3, x4⟩ := job_cells15 K.out.now.2.1
  cases fj with
  | false =>
    go_wp2_with (go_at_call 10; refine (HFS.out _).mono ?_; rintro e w2 ⟨rfl, bb⟩; replace K := Lib.hid (K.out.step bb); clear bb)
    go_ret
    exact ⟨rfl, K.out.now.2.2⟩
  | true =>
    obtain ⟨l1, l2, l3, l4⟩ := HFF.out rfl
    go_upto_region 5 with (go_at_call 10; refine (HFS.out _).mono ?_; rintro e w2 ⟨rfl, bb⟩; replace K := Lib.hid (K.out.step bb); clear bb y0 y1 x0 x1 x2 x3 x4; obtain ⟨y0, y1⟩ := txt_cells K.out.now.1; obtain ⟨x0, x1, x2, x3, x4⟩ := job_cells15 K.out.now.2.1)
    have HD := Lib.hid (fun wx (hb0 : Below w.heap.size w wx) => HS.out.do_ A c S l y a b pat rep ev wx hb0 (HT.out _ hb0) l1 l2 hy ha hb l3 l4)
    obtain ⟨v, hv⟩ : ∃ v, subS S l y a b pat rep ev = v := ⟨_, rfl⟩
    rw [hv] at HD
    have HV := Lib.hid hv
    obtain ⟨⟨⟨ea, ES, el, EX, em⟩, n⟩, er⟩ := v
    have HO := Lib.hid (okS (S := S) (l := l) HF.out hy hv)
    clear hv
    go_upto_region 6 with (go_at_call 11; refine (HD.out _ K.out.now.2.2).mono ?_; rintro e w3 ⟨A4, c4, B4, d4, rfl, rA, rB, bb⟩; dsimp only at rA rB ⊢; have KE := Lib.hid ((K.out.step bb).evar (c := c4) (d := d4) (a := ea) (A := A4) (B := B4) (OkT.txt2 HO.out.1 rA) (OkT.txt2 HO.out.2 rB)); clear bb rA rB y0 y1 x0 x1 x2 x3 x4)
    generalize w3.heap.size = g3 at *
    generalize w3.alloc (.cells #[.int .i64 ea, .string ⟨ES.toArray⟩, .slice A4 el.length c4, .string ⟨EX.toArray⟩, .slice B4 em.length d4] 32) = w4 at *
    obtain ⟨y0, y1⟩ := txt_cells KE.out.now.2.1
    obtain ⟨x0, x1, x2, x3, x4⟩ := job_cells15 KE.out.now.2.2.1
    obtain ⟨v0, v1, v2, v3, v4⟩ := ed_cells KE.out.now.1.1
    by_cases her : er = 0
    · subst her
      obtain ⟨U, q, hap, hn1, hn2, hUl⟩ := sub_count HV.out
      dsimp only at hap
      have HAP := Lib.hid hap
      have HUL := Lib.hid hUl
      have hmn := mul_nearC (p := n) (m := pat.length) (r := rep.length) (by omega) l3 l4
      have hw1 : IntKind.i64.wrap ((n : Int) * ((rep.length : Int) - (pat.length : Int))) = (n : Int) * ((rep.length : Int) - (pat.length : Int)) := wrapS_near (by omega) (by omega)
      have hw2 : IntKind.i64.wrap ((S.length : Int) + (n : Int) * ((rep.length : Int) - (pat.length : Int))) = (S.length : Int) + (n : Int) * ((rep.length : Int) - (pat.length : Int)) := wrapS_near (by omega) (by omega)
      have hge : decide ((n : Int) ≥ 1) = true := decide_eq_true (by omega)
      have heq : ((U.length : Int) == (S.length : Int) + (n : Int) * ((rep.length : Int) - (pat.length : Int))) = true := by rw [beq_iff_eq]; exact hUl
      have HOU := okT_apply (S := S) (l := l) (X := EX) (m := em) HF.out HO.out.2.2.1 ea ES el
      rw [hap] at HOU
      have hU : U.length ≤ 4096 := HOU.1
      clear hap hUl hn1 HOU
      go_wp2_with (go_at_call 15; refine (refEApply_any A A4 B4 c c4 d4 S l ea ES el EX em _ (HT.out _ KE.out.now.2.2.2) KE.out.now.1.2.1 KE.out.now.1.2.2).mono ?_; rw [HAP.out]; rintro e w5 ⟨A6, c6, rfl, own6, bb⟩; dsimp only at own6 ⊢; have KU := Lib.hid (((KE.out.step bb).alloc (.cells #[.string ⟨U.toArray⟩, .slice A6 q.length c6] 24)).and (grow_new w5 24 #[.string ⟨U.toArray⟩, .slice A6 q.length c6])); clear bb own6 y0 y1 x0 x1 x2 x3 x4 v0 v1 v2 v3 v4; obtain ⟨y0, y1⟩ := txt_cells KU.out.now.1.2.1; obtain ⟨x0, x1, x2, x3, x4⟩ := job_cells15 KU.out.now.1.2.2.1; obtain ⟨u0, u1⟩ := txt_cells KU.out.now.2)
      go_ret
      exact ⟨rfl, KU.out.now.1.2.2.2⟩
    · have g1 : ((er : Int) != 0) = true := by rw [bne_iff_ne]; omega
      have hz := subS_err (S := S) (l := l) (y := y) (A := a) (B := b) (pat := pat) (rep := rep) (every := ev) (by rw [HV.out]; exact her)
      rw [HV.out] at hz
      injection hz with hz1 hz2
      injection hz1 with z1 z2 z3 z4 z5
      subst z1 z2 z3 z4 z5 hz2
      have HSA : Hid (∀ wx, Txu wx A4 [] [] → Txu wx B4 [] [] → Calls Tryd.prog 14 #[.agg #[.int .i64 0, .string ⟨#[]⟩, .slice A4 0 c4, .string ⟨#[]⟩, .slice B4 0 d4], .agg #[.int .i64 0, .string ⟨#[]⟩, .slice none 0 0, .string ⟨#[]⟩, .slice none 0 0]] wx fun e w' => e = .returned (.bool true) ∧ Below wx.heap.size wx w') := fun wx h1 h2 => refESame_any A4 B4 none none c4 d4 0 0 0 [] [] [] [] wx h1 h2 txu_nilS txu_nilS
      go_wp2_with (go_at_call 14; refine (HSA.out _ KE.out.now.1.2.1 KE.out.now.1.2.2).mono ?_; rintro e w5 ⟨rfl, bb⟩; have KU := Lib.hid (KE.out.step bb); clear bb)
      go_ret
      exact ⟨rfl, KU.out.now.2.2.2⟩
end Go.Proofs.YtgmeamefbfgbgaaDoor

/-
  For any text and edit: behind the edit and its inverse the text is what it was (over what edit says): layer 7.
-/
import Derived.Test.YtmpliacojljchaaEdiLawA
import Derived.Test.YtmpliacojljchaaStrLawH
import Derived.Test.YtmpliacojljchaaTextSet
namespace Go.Proofs.Ytmpliacojljchaa
open Go.RowKit

theorem txu_nil (w : World) : Txu w none [] [] := ⟨by simp, fun r hr => by simp at hr, by simp, Row.nil⟩
section
variable {wb : World} {A A2 : Option Addr} {c d : Nat} {a : Int} {S X : List UInt8} {l m : List RunP}
/-- an edit made, among other calls -/
theorem apply_in {V U : List UInt8} {r q : List RunP} {A4 : Option Addr} {c4 : Nat} {n : Nat} (h : applyE V r a X m U q = ((S, l), n)) (hT : ∀ w', Below wb.heap.size wb w' → Txu w' A4 V r) :
    ∀ w', Below wb.heap.size wb w' → ∀ B k B2 k2, Txu w' B X m → Txu w' B2 U q → Calls Try.prog 20 #[.agg #[.string ⟨V.toArray⟩, .slice A4 r.length c4], .agg #[.int .i64 a, .string ⟨X.toArray⟩, .slice B m.length k, .string ⟨U.toArray⟩, .slice B2 q.length k2]] w' fun e w'' => ∃ A' c', e = .returned (.tuple #[.agg #[.string ⟨S.toArray⟩, .slice A' l.length c'], .int .i64 (n : Nat)]) ∧ Hid (Grow w'' (fun v => Txu v A' S l)) ∧ Below wb.heap.size wb w'' ∧ Below w'.heap.size w' w'' := by
  intro w' hb B k B2 k2 h1 h2
  have t := hT w' hb
  have ok := okT_apply (S := V) (X := U) t.hf h2.hf a X m
  rw [h] at ok
  refine (ediApply_any A4 B B2 c4 k k2 V r a X m U q w' t h1 h2).mono ?_
  rw [h]
  rintro e w'' ⟨A', c', rfl, own, bb⟩
  exact ⟨A', c', rfl, grow_txu (ok.txt (Row.of_own own)), hb.trans (bb.mono hb.size), bb⟩
end

set_option maxRecDepth 8000 in
set_option maxHeartbeats 4000000 in
theorem editBack_walk (w : World) (A : Option Addr) (c : Nat) (S : List UInt8) (l : List RunP) (h : Txt w w.heap.size A S l) (a : Int) (U : List UInt8) (A2 : Option Addr) (q : List RunP) (d : Nat) (X : List UInt8) (A3 : Option Addr) (m : List RunP) (d3 : Nat) (hU : Txt w w.heap.size A2 U q) (hX : Txt w w.heap.size A3 X m) :
    Calls Try.prog 5 #[.agg #[.string ⟨S.toArray⟩, .slice A l.length c], .agg #[.int .i64 a, .string ⟨U.toArray⟩, .slice A2 q.length d, .string ⟨X.toArray⟩, .slice A3 m.length d3]] w fun e w' => e = .returned (.bool true) ∧ Below w.heap.size w w' := by
  have L := Lib.hid (And.intro h (And.intro hU hX))
  have BX := Lib.hid (boxesE2 w 24 29 #[.string ⟨S.toArray⟩, .slice A l.length c] #[.int .i64 a, .string ⟨U.toArray⟩, .slice A2 q.length d, .string ⟨X.toArray⟩, .slice A3 m.length d3])
  have K := Lib.hid (BX.out.and (((grow_txu h).and ((grow_txu hU).and (grow_txu hX))).step BX.out.now.2.2))
  clear h hU hX BX
  obtain ⟨y0, y1⟩ := txt_cells K.out.now.1.1; obtain ⟨z0, z1, z2, z3, z4⟩ := ed_cells K.out.now.1.2.1
  by_cases hfit : S.length ≤ 5000 ∧ l.length ≤ 5000
  · by_cases hfit2 : (U.length ≤ 5000 ∧ q.length ≤ 5000) ∧ (X.length ≤ 5000 ∧ m.length ≤ 5000)
    · obtain ⟨p, hp⟩ : ∃ p, applyE S l a U q X m = p := ⟨_, rfl⟩
      have HOK : Hid (OkT p) := by show OkT _; rw [← hp]; exact okT_apply L.out.1.hf L.out.2.2.hf _ _ _
      have HP := Lib.hid hp
      clear hp
      obtain ⟨⟨V, r⟩, n⟩ := p
      have H1 := Lib.hid (decide_eq_true hfit)
      have H2 := Lib.hid (decide_eq_true hfit2)
      have hq5 : q.length ≤ 5000 := hfit2.1.2
      have hm5 : m.length ≤ 5000 := hfit2.2.2
      clear hfit hfit2
      by_cases hn : n = 0
      · subst hn
        have HBK : Hid (applyE V r a X m U q = ((S, l), 0)) := back_ok HP.out
        go_enter Try.func5, Try.ntmps5
        go_upto_region 8 with (first
          | (go_at_call 9; refine (ediAlive_any _).mono ?_; rintro e w1 ⟨rfl, bb⟩; replace K := Lib.hid (K.out.step bb); clear y0 y1 z0 z1 z2 z3 z4; clear bb; obtain ⟨y0, y1⟩ := txt_cells K.out.now.1.1; obtain ⟨z0, z1, z2, z3, z4⟩ := ed_cells K.out.now.1.2.1)
          | (go_at_call 10; refine (lawFits_any S L.out.1.hS l L.out.1.hl A c _).mono ?_; rw [H1.out]; rintro e w2 ⟨rfl, bb⟩; replace K := Lib.hid (K.out.step bb); clear y0 y1 z0 z1 z2 z3 z4; clear bb; obtain ⟨y0, y1⟩ := txt_cells K.out.now.1.1; obtain ⟨z0, z1, z2, z3, z4⟩ := ed_cells K.out.now.1.2.1)
          | (go_at_call 16; refine (lawEFits_any A2 A3 d d3 a U X q m _ L.out.2.1.hS L.out.2.1.hl L.out.2.2.hS L.out.2.2.hl).mono ?_; rw [H2.out]; rintro e w3 ⟨rfl, bb⟩; replace K := Lib.hid (K.out.step bb); clear y0 y1 z0 z1 z2 z3 z4; clear bb; obtain ⟨y0, y1⟩ := txt_cells K.out.now.1.1; obtain ⟨z0, z1, z2, z3, z4⟩ := ed_cells K.out.now.1.2.1)
          | (go_at_call 20; refine (ediApply_any A A2 A3 c d d3 S l a U q X m _ K.out.now.2.1 K.out.now.2.2.1 K.out.now.2.2.2).mono ?_; rw [HP.out]; rintro e w4 ⟨A4, c4, rfl, own, bb⟩; dsimp only at own ⊢; replace K := Lib.hid ((K.out.step bb).var (c := c4) (HOK.out.txt (Row.of_own own))); clear y0 y1 z0 z1 z2 z3 z4; clear own bb; obtain ⟨y0, y1⟩ := txt_cells K.out.now.2.1.1; obtain ⟨z0, z1, z2, z3, z4⟩ := ed_cells K.out.now.2.1.2.1; obtain ⟨v0, v1⟩ := txt_cells K.out.now.1.1))
        clear y0 y1 z0 z1 z2 z3 z4
        clear v0 v1
        generalize w4.alloc (.cells #[.string ⟨V.toArray⟩, .slice A4 r.length c4] 24) = wb at *
        generalize w4.heap.size = g5 at *
        have hb0 : Below wb.heap.size wb wb := Below.refl _ _
        have KB := Lib.hid (fun w' hb => And.intro (And.intro (txt_cells (K.out w' hb).1.1) (ed_cells (K.out w' hb).2.1.2.1)) hb)
        have TI := Lib.hid (invert_in (wb := wb) (a := a) (A := A2) (A2 := A3) (c := d) (d := d3) (S := U) (l := q) (X := X) (m := m) (by omega) (by omega) (fun w' hb => (K.out w' hb).2.2.2.1) (fun w' hb => (K.out w' hb).2.2.2.2))
        have TA := Lib.hid (apply_in (wb := wb) (A4 := A4) (c4 := c4) HBK.out (fun w' hb => (K.out w' hb).1.2))
        go_cut [7, 8] (fun s7 s8 wx => ∃ g A' c', s7 = .pointer (some ⟨g, 0, none⟩) ∧ s8 = .int .i64 0 ∧ Below wb.heap.size wb wx ∧ Blk wx g 24 #[.string ⟨S.toArray⟩, .slice A' l.length c'] ∧ Txu wx A' S l)
        case first =>
          go_region_held3 (fun w' => ((w'.cell? ⟨g5, 0, none⟩ = some (.string ⟨V.toArray⟩) ∧ w'.cell? ⟨g5, 1, none⟩ = some (.slice A4 r.length c4)) ∧
              w'.cell? ⟨w.heap.size + 1, 0, none⟩ = some (.int .i64 a) ∧ w'.cell? ⟨w.heap.size + 1, 1, none⟩ = some (.string ⟨U.toArray⟩) ∧ w'.cell? ⟨w.heap.size + 1, 2, none⟩ = some (.slice A2 q.length d) ∧ w'.cell? ⟨w.heap.size + 1, 3, none⟩ = some (.string ⟨X.toArray⟩) ∧ w'.cell? ⟨w.heap.size + 1, 4, none⟩ = some (.slice A3 m.length d3)) ∧ Below wb.heap.size wb w')
            (first | (refine KB.out _ ?_; (repeat (first | assumption | refine belowT_dr ?_ | refine belowT_al ?_ (Nat.le_refl _) | (refine Below.setCell ?_ ?_ _; rotate_left; (first | focus (simp; done) | focus (simp; omega))))); done))
            (first
              | (go_at_call 14; refine (TI.out _ ?_).mono ?_; (repeat (first | assumption | refine belowT_dr ?_ | refine belowT_al ?_ (Nat.le_refl _))); rintro e w7 ⟨B1, k1, B2, k2, rfl, ri, hbx, hby⟩; have hzy := hbx.size; first | (refine use_factT (knT_one_drew hby) ?_; intro a1; obtain ⟨⟨b1, b2⟩, ⟨b3, b4⟩, b5, b6, b7⟩ := knT_of a1; have AV := Lib.hid a1; clear a1) | skip)
              | (go_at_call 20; refine (TA.out _ ?_ B1 k1 B2 k2 ?_ ?_).mono ?_; (repeat (first | assumption | refine belowT_dr ?_ | refine belowT_al ?_ (Nat.le_refl _))); (first | exact ri.out.now.1 | exact (ri.out.alloc _).now.1); (first | exact ri.out.now.2 | exact (ri.out.alloc _).now.2); rintro e w8 ⟨A8, c8, rfl, ra, hbx, hby⟩; have hzy := hbx.size; first | (refine use_factT (knT_one hby) ?_; intro a1; obtain ⟨⟨b1, b2⟩, ⟨b3, b4⟩, b5, b6, b7⟩ := knT_of a1; have AV := Lib.hid a1; clear a1) | (refine use_factT (blkT_step AV.out hby) ?_; intro a1; obtain ⟨⟨b1, b2⟩, ⟨b3, b4⟩, b5, b6, b7⟩ := knT_of a1; have AV := Lib.hid a1; clear a1) | skip))
          all_goals go_wp2_with fail
          all_goals go_meet
          all_goals
            refine ⟨_, A8, c8, rfl, rfl, ?_, ?_, ?_⟩
            · repeat (first | assumption | refine belowT_dr ?_ | refine belowT_al ?_ (Nat.le_refl _) | (refine Below.setCell ?_ ?_ _; rotate_left; (first | focus (simp; done) | focus (simp; omega))))
            · first | with_reducible exact Blk.new _ _ _ | exact blk_two AV.out _ _
            · first | with_reducible exact (ra.out.alloc _).now | exact (Txt.setV ra.out.now AV.out _ _).more (by simp)
        case rest =>
          obtain ⟨g7, A8, c8, rfl, rfl, hbc, n1, t1⟩ := hcut
          have K9 := Lib.hid (((grow_blk n1).and (grow_txu t1)).and (K.out.step hbc))
          obtain ⟨v0, v1⟩ := txt_cells n1
          obtain ⟨y0, y1⟩ := txt_cells K9.out.now.2.2.1.1
          clear n1 t1 hbc K KB TI TA hb0
          go_wp2_with (go_at_call 21; refine (refTSame_any A8 A c8 c _ _ S S l l _ (Nat.le_refl _) (Nat.le_refl _) K9.out.now.1.2 K9.out.now.2.2.2.1).mono ?_; rw [decide_eq_true ⟨rfl, rfl⟩]; rintro e w9 ⟨rfl, bb⟩; replace K9 := Lib.hid (K9.out.step bb); clear bb v0 v1 y0 y1)
          go_ret
          exact ⟨rfl, K9.out.now.2.2.1.2.2⟩
      · obtain ⟨rfl, rfl⟩ : V = [] ∧ r = [] := by
          have e := applyE_err (S := S) (l := l) (a := a) (U := U) (q := q) (X := X) (m := m) (by rw [HP.out]; exact hn)
          rw [HP.out] at e
          injection e with e1 e2
          exact ⟨e1, e2⟩
        have hn' : ((n : Int) == 0) = false := by simp; omega
        clear hn
        go_enter Try.func5, Try.ntmps5
        go_wp2_with (first
          | (go_at_call 9; refine (ediAlive_any _).mono ?_; rintro e w1 ⟨rfl, bb⟩; replace K := Lib.hid (K.out.step bb); clear y0 y1 z0 z1 z2 z3 z4; clear bb; obtain ⟨y0, y1⟩ := txt_cells K.out.now.1.1; obtain ⟨z0, z1, z2, z3, z4⟩ := ed_cells K.out.now.1.2.1)
          | (go_at_call 10; refine (lawFits_any S L.out.1.hS l L.out.1.hl A c _).mono ?_; rw [H1.out]; rintro e w2 ⟨rfl, bb⟩; replace K := Lib.hid (K.out.step bb); clear y0 y1 z0 z1 z2 z3 z4; clear bb; obtain ⟨y0, y1⟩ := txt_cells K.out.now.1.1; obtain ⟨z0, z1, z2, z3, z4⟩ := ed_cells K.out.now.1.2.1)
          | (go_at_call 16; refine (lawEFits_any A2 A3 d d3 a U X q m _ L.out.2.1.hS L.out.2.1.hl L.out.2.2.hS L.out.2.2.hl).mono ?_; rw [H2.out]; rintro e w3 ⟨rfl, bb⟩; replace K := Lib.hid (K.out.step bb); clear y0 y1 z0 z1 z2 z3 z4; clear bb; obtain ⟨y0, y1⟩ := txt_cells K.out.now.1.1; obtain ⟨z0, z1, z2, z3, z4⟩ := ed_cells K.out.now.1.2.1)
          | (go_at_call 20; refine (ediApply_any A A2 A3 c d d3 S l a U q X m _ K.out.now.2.1 K.out.now.2.2.1 K.out.now.2.2.2).mono ?_; rw [HP.out]; rintro e w4 ⟨A4, c4, rfl, own, bb⟩; dsimp only at own ⊢; replace K := Lib.hid ((K.out.step bb).var (c := c4) (HOK.out.txt (Row.of_own own))); clear y0 y1 z0 z1 z2 z3 z4; clear own bb; obtain ⟨y0, y1⟩ := txt_cells K.out.now.2.1.1; obtain ⟨z0, z1, z2, z3, z4⟩ := ed_cells K.out.now.2.1.2.1; obtain ⟨v0, v1⟩ := txt_cells K.out.now.1.1)
          | (go_at_call 21; refine (refTSame_any A4 none c4 0 _ _ [] [] [] [] _ (Nat.le_refl _) (Nat.le_refl _) K.out.now.1.2 (txu_nil _)).mono ?_; rw [decide_eq_true ⟨rfl, rfl⟩]; rintro e w5 ⟨rfl, bb⟩; replace K := Lib.hid (K.out.step bb); clear bb))
        go_ret
        exact ⟨rfl, K.out.now.2.1.2.2⟩
    · have H1 := Lib.hid (decide_eq_true hfit)
      have H2 := Lib.hid (decide_eq_false hfit2)
      clear hfit hfit2
      go_enter Try.func5, Try.ntmps5
      go_wp2_with (first
        | (go_at_call 9; refine (ediAlive_any _).mono ?_; rintro e w1 ⟨rfl, bb⟩; replace K := Lib.hid (K.out.step bb); clear y0 y1 z0 z1 z2 z3 z4; clear bb; obtain ⟨y0, y1⟩ := txt_cells K.out.now.1.1; obtain ⟨z0, z1, z2, z3, z4⟩ := ed_cells K.out.now.1.2.1)
        | (go_at_call 10; refine (lawFits_any S L.out.1.hS l L.out.1.hl A c _).mono ?_; rw [H1.out]; rintro e w2 ⟨rfl, bb⟩; replace K := Lib.hid (K.out.step bb); clear y0 y1 z0 z1 z2 z3 z4; clear bb; obtain ⟨y0, y1⟩ := txt_cells K.out.now.1.1; obtain ⟨z0, z1, z2, z3, z4⟩ := ed_cells K.out.now.1.2.1)
        | (go_at_call 16; refine (lawEFits_any A2 A3 d d3 a U X q m _ L.out.2.1.hS L.out.2.1.hl L.out.2.2.hS L.out.2.2.hl).mono ?_; rw [H2.out]; rintro e w3 ⟨rfl, bb⟩; replace K := Lib.hid (K.out.step bb); clear y0 y1 z0 z1 z2 z3 z4; clear bb; obtain ⟨y0, y1⟩ := txt_cells K.out.now.1.1; obtain ⟨z0, z1, z2, z3, z4⟩ := ed_cells K.out.now.1.2.1))
      go_ret
      exact ⟨rfl, K.out.now.1.2.2⟩
  · have H1 := Lib.hid (decide_eq_false hfit)
    clear hfit
    go_enter Try.func5, Try.ntmps5
    go_wp2_with (first
      | (go_at_call 9; refine (ediAlive_any _).mono ?_; rintro e w1 ⟨rfl, bb⟩; replace K := Lib.hid (K.out.step bb); clear y0 y1 z0 z1 z2 z3 z4; clear bb; obtain ⟨y0, y1⟩ := txt_cells K.out.now.1.1; obtain ⟨z0, z1, z2, z3, z4⟩ := ed_cells K.out.now.1.2.1)
      | (go_at_call 10; refine (lawFits_any S L.out.1.hS l L.out.1.hl A c _).mono ?_; rw [H1.out]; rintro e w2 ⟨rfl, bb⟩; replace K := Lib.hid (K.out.step bb); clear y0 y1 z0 z1 z2 z3 z4; clear bb; obtain ⟨y0, y1⟩ := txt_cells K.out.now.1.1; obtain ⟨z0, z1, z2, z3, z4⟩ := ed_cells K.out.now.1.2.1))
    go_ret
    exact ⟨rfl, K.out.now.1.2.2⟩
end Go.Proofs.Ytmpliacojljchaa

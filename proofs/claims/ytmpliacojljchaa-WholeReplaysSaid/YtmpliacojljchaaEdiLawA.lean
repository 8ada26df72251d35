/-
  For any text, places and text: the edit is the document's (over what edit says): layer 7.
-/
import Derived.Test.YtmpliacojljchaaEdiAlive
namespace Go.Proofs.Ytmpliacojljchaa
open Go.RowKit

/-- an edit that can be asked again -/
def OkE (r : EdP) : Prop := (∀ (w : World) (A : Option Addr), Row w w.heap.size A (flatR r.l) → Txu w A r.S r.l) ∧ (∀ (w : World) (A : Option Addr), Row w w.heap.size A (flatR r.m) → Txu w A r.X r.m)
theorem okE_of {S X : List UInt8} {l m : List RunP} (h : S.length ≤ maxLen ∧ Fits l ∧ l.length ≤ maxLen) (hX : X.length ≤ maxLen ∧ Fits m ∧ m.length ≤ maxLen) (f t : Int) : OkE (ofE S l f t X m).1 := by
  have h0 : ∀ (w : World) (A : Option Addr), Row w w.heap.size A (flatR []) → Txu w A [] [] := fun w A hr => ⟨by simp, fun r hr => by simp at hr, by simp, hr⟩
  unfold ofE
  split
  · split
    · have hk := okT_cut (S := S) h.2.1 f t
      exact ⟨fun w A hr => hk.txt hr, fun w A hr => ⟨hX.1, hX.2.1, hX.2.2, hr⟩⟩
    · exact ⟨h0, h0⟩
  · exact ⟨h0, h0⟩
theorem okE_runs {S X : List UInt8} {l m : List RunP} (hX : X.length ≤ 5000 ∧ m.length ≤ 5000) (f t : Int) : (ofE S l f t X m).1.l.length ≤ 1000000 ∧ (ofE S l f t X m).1.m.length ≤ 1000000 := by
  unfold ofE
  split
  · next hc =>
    split
    · have hw := cutOf_zero hc
      obtain ⟨gS, h0, h1, h2⟩ := withinT_of hw
      obtain ⟨s1, s2, s3⟩ := goodT_size gS
      have hcl := cut_len (b := bytesOf l) h0 h1 (by omega)
      have hp : (pack (cut (bytesOf l) f t)).length ≤ maxLen := pack_small (by omega)
      have e : (cutOf S l f t).1.2 = pack (cut (bytesOf l) f t) := by unfold cutOf; rw [if_pos hw]
      have hq : (pack (cut (bytesOf l) f t)).length ≤ (cut (bytesOf l) f t).length := pack_len _
      dsimp only
      rw [e]
      constructor <;> omega
    · simp
  · simp
section
variable {wb : World} {A A2 : Option Addr} {c d : Nat} {a : Int} {S X : List UInt8} {l m : List RunP}
theorem invert_in (hl : l.length ≤ 1000000) (hm : m.length ≤ 1000000) (hT : ∀ w', Below wb.heap.size wb w' → Txu w' A S l) (hX : ∀ w', Below wb.heap.size wb w' → Txu w' A2 X m) :
    ∀ w', Below wb.heap.size wb w' → Calls Try.prog 14 #[.agg #[.int .i64 a, .string ⟨S.toArray⟩, .slice A l.length c, .string ⟨X.toArray⟩, .slice A2 m.length d]] w' fun e w'' => ∃ B c' B2 d', e = .returned (.agg #[.int .i64 a, .string ⟨X.toArray⟩, .slice B m.length c', .string ⟨S.toArray⟩, .slice B2 l.length d']) ∧ Hid (Grow w'' (fun v => Txu v B X m ∧ Txu v B2 S l)) ∧ Below wb.heap.size wb w'' ∧ Below w'.heap.size w' w'' := by
  intro w' hb
  have t := hT w' hb
  have x := hX w' hb
  refine (ediInvert_any A A2 c d a S l X m hl hm w' t x).mono ?_
  rintro e w'' ⟨B, c', B2, d', rfl, r1, r2, bb⟩
  exact ⟨B, c', B2, d', rfl, (grow_txu ⟨x.hS, x.hf, x.hl, r1⟩).and (grow_txu ⟨t.hS, t.hf, t.hl, r2⟩), hb.trans (bb.mono hb.size), bb⟩
theorem refInvert_in (hT : ∀ w', Below wb.heap.size wb w' → Txu w' A S l) (hX : ∀ w', Below wb.heap.size wb w' → Txu w' A2 X m) :
    ∀ w', Below wb.heap.size wb w' → Calls Try.prog 15 #[.agg #[.int .i64 a, .string ⟨S.toArray⟩, .slice A l.length c, .string ⟨X.toArray⟩, .slice A2 m.length d]] w' fun e w'' => ∃ B c' B2 d', e = .returned (.agg #[.int .i64 a, .string ⟨X.toArray⟩, .slice B m.length c', .string ⟨S.toArray⟩, .slice B2 l.length d']) ∧ Hid (Grow w'' (fun v => Txu v B X m ∧ Txu v B2 S l)) ∧ Below wb.heap.size wb w'' ∧ Below w'.heap.size w' w'' := by
  intro w' hb
  have t := hT w' hb
  have x := hX w' hb
  refine (refEInvert_any A A2 c d a S l X m w' t x).mono ?_
  rintro e w'' ⟨B, c', B2, d', rfl, r1, r2, bb⟩
  exact ⟨B, c', B2, d', rfl, (grow_txu ⟨x.hS, x.hf, x.hl, r1⟩).and (grow_txu ⟨t.hS, t.hf, t.hl, r2⟩), hb.trans (bb.mono hb.size), bb⟩
theorem refSame_in {B B2 : Option Addr} {c2 d2 : Nat} (h : ∀ w', Below wb.heap.size wb w' → Txu w' A S l ∧ Txu w' A2 X m ∧ Txu w' B S l ∧ Txu w' B2 X m) :
    ∀ w', Below wb.heap.size wb w' → Calls Try.prog 13 #[.agg #[.int .i64 a, .string ⟨S.toArray⟩, .slice A l.length c, .string ⟨X.toArray⟩, .slice A2 m.length d], .agg #[.int .i64 a, .string ⟨S.toArray⟩, .slice B l.length c2, .string ⟨X.toArray⟩, .slice B2 m.length d2]] w' fun e w'' => e = .returned (.bool true) ∧ Below wb.heap.size wb w'' ∧ Below w'.heap.size w' w'' := by
  intro w' hb
  obtain ⟨t1, t2, t3, t4⟩ := h w' hb
  refine (refESame_any A A2 B B2 c d c2 d2 a S l X m w' t1 t2 t3 t4).mono ?_
  rintro e w'' ⟨rfl, bb⟩
  exact ⟨rfl, hb.trans (bb.mono hb.size), bb⟩
end

set_option maxHeartbeats 2000000 in
theorem editMakes_walk (w : World) (A : Option Addr) (c : Nat) (S : List UInt8) (l : List RunP) (h : Txt w w.heap.size A S l) (f t : Int) (_hf : -9223372036854775808 ≤ f ∧ f ≤ 9223372036854775807) (_ht : -9223372036854775808 ≤ t ∧ t ≤ 9223372036854775807)
    (A2 : Option Addr) (d : Nat) (X : List UInt8) (m : List RunP) (hh : Txt w w.heap.size A2 X m) :
    Calls Try.prog 3 #[.agg #[.string ⟨S.toArray⟩, .slice A l.length c], .agg #[.int .i64 f, .int .i64 t], .agg #[.string ⟨X.toArray⟩, .slice A2 m.length d]] w fun e w' => e = .returned (.bool true) ∧ Below w.heap.size w w' := by
  have L := Lib.hid (And.intro h hh)
  have BX := Lib.hid (boxesE3 w 24 25 24 #[.string ⟨S.toArray⟩, .slice A l.length c] #[.int .i64 f, .int .i64 t] #[.string ⟨X.toArray⟩, .slice A2 m.length d])
  have K := Lib.hid (BX.out.and (((grow_txu h).and (grow_txu hh)).step BX.out.now.2.2.2))
  clear h hh BX
  obtain ⟨y0, y1⟩ := txt_cells K.out.now.1.1; obtain ⟨z0, z1⟩ := txt_cells K.out.now.1.2.1; obtain ⟨u0, u1⟩ := txt_cells K.out.now.1.2.2.1
  by_cases hfit : S.length ≤ 5000 ∧ l.length ≤ 5000
  · by_cases hfit2 : X.length ≤ 5000 ∧ m.length ≤ 5000
    · obtain ⟨p, hp⟩ : ∃ p, ofE S l f t X m = p := ⟨_, rfl⟩
      have HOK : Hid (OkE p.1) := by show OkE _; rw [← hp]; exact okE_of ⟨L.out.1.hS, L.out.1.hf, L.out.1.hl⟩ ⟨L.out.2.hS, L.out.2.hf, L.out.2.hl⟩ f t
      have HRL : Hid (p.1.l.length ≤ 1000000 ∧ p.1.m.length ≤ 1000000) := by show _ ∧ _; rw [← hp]; exact okE_runs hfit2 f t
      have HP := Lib.hid hp
      clear hp
      obtain ⟨⟨a, U, q, V, r⟩, n⟩ := p
      dsimp only at HRL
      have H1 := Lib.hid (decide_eq_true hfit)
      have H2 := Lib.hid (decide_eq_true hfit2)
      have hm5 : m.length ≤ 5000 := hfit2.2
      clear hfit hfit2
      go_enter Try.func3, Try.ntmps3
      go_upto_region 7 with (first
        | (go_at_call 9; refine (ediAlive_any _).mono ?_; rintro e w1 ⟨rfl, bb⟩; replace K := Lib.hid (K.out.step bb); clear y0 y1 z0 z1 u0 u1; clear bb; obtain ⟨y0, y1⟩ := txt_cells K.out.now.1.1; obtain ⟨z0, z1⟩ := txt_cells K.out.now.1.2.1; obtain ⟨u0, u1⟩ := txt_cells K.out.now.1.2.2.1)
        | (go_at_call_of 10 l; refine (lawFits_any S L.out.1.hS l L.out.1.hl A c _).mono ?_; rw [H1.out]; rintro e w2 ⟨rfl, bb⟩; replace K := Lib.hid (K.out.step bb); clear y0 y1 z0 z1 u0 u1; clear bb; obtain ⟨y0, y1⟩ := txt_cells K.out.now.1.1; obtain ⟨z0, z1⟩ := txt_cells K.out.now.1.2.1; obtain ⟨u0, u1⟩ := txt_cells K.out.now.1.2.2.1)
        | (go_at_call_of 10 m; refine (lawFits_any X L.out.2.hS m L.out.2.hl A2 d _).mono ?_; rw [H2.out]; rintro e w3 ⟨rfl, bb⟩; replace K := Lib.hid (K.out.step bb); clear y0 y1 z0 z1 u0 u1; clear bb; obtain ⟨y0, y1⟩ := txt_cells K.out.now.1.1; obtain ⟨z0, z1⟩ := txt_cells K.out.now.1.2.1; obtain ⟨u0, u1⟩ := txt_cells K.out.now.1.2.2.1)
        | (go_at_call 11; refine (ediOf_any A A2 c d S l f t X m (by omega) _ K.out.now.2.1 K.out.now.2.2).mono ?_; rw [HP.out]; rintro e w4 ⟨A4, c4, A5, c5, rfl, r4, r5, bb⟩; dsimp only at r4 r5 ⊢; replace K := Lib.hid ((K.out.step bb).evar (a := a) (c := c4) (d := c5) (HOK.out.1 _ _ r4) (HOK.out.2 _ _ r5)); clear y0 y1 z0 z1 u0 u1; clear bb r4 r5; obtain ⟨y0, y1⟩ := txt_cells K.out.now.2.1.1; obtain ⟨z0, z1⟩ := txt_cells K.out.now.2.1.2.1; obtain ⟨u0, u1⟩ := txt_cells K.out.now.2.1.2.2.1)
        | (go_at_call 12; refine (refEOf_any A A2 c d S l f t X m _ K.out.now.2.2.1 K.out.now.2.2.2).mono ?_; rw [HP.out]; rintro e w5 ⟨A6, c6, A7, c7, rfl, r4, r5, bb⟩; dsimp only at r4 r5 ⊢; replace K := Lib.hid ((K.out.step bb).evar (a := a) (c := c6) (d := c7) (HOK.out.1 _ _ r4) (HOK.out.2 _ _ r5)); clear y0 y1 z0 z1 u0 u1; clear bb r4 r5))
      generalize w5.alloc (.cells #[.int .i64 a, .string ⟨U.toArray⟩, .slice A6 q.length c6, .string ⟨V.toArray⟩, .slice A7 r.length c7] 29) = wb at *
      generalize w4.heap.size = g4 at *
      generalize w5.heap.size = g5 at *
      have hb0 : Below wb.heap.size wb wb := Below.refl _ _
      have KB := Lib.hid (fun w' hb => And.intro (ed_cells (K.out w' hb).2.1.1) (ed_cells (K.out w' hb).1.1))
      have TS := Lib.hid (refSame_in (wb := wb) (a := a) (A := A4) (A2 := A5) (B := A6) (B2 := A7) (c := c4) (d := c5) (c2 := c6) (d2 := c7) (S := U) (l := q) (X := V) (m := r) (fun w' hb => ⟨(K.out w' hb).2.1.2.1, (K.out w' hb).2.1.2.2, (K.out w' hb).1.2.1, (K.out w' hb).1.2.2⟩))
      have TI := Lib.hid (invert_in (wb := wb) (a := a) (A := A4) (A2 := A5) (c := c4) (d := c5) (S := U) (l := q) (X := V) (m := r) HRL.out.1 HRL.out.2 (fun w' hb => (K.out w' hb).2.1.2.1) (fun w' hb => (K.out w' hb).2.1.2.2))
      have TJ := Lib.hid (refInvert_in (wb := wb) (a := a) (A := A6) (A2 := A7) (c := c6) (d := c7) (S := U) (l := q) (X := V) (m := r) (fun w' hb => (K.out w' hb).1.2.1) (fun w' hb => (K.out w' hb).1.2.2))
      have BW : Hid (∀ w', Below wb.heap.size wb w' → Below w.heap.size w w') := fun w' hb => (K.out w' hb).2.2.1.2.2.2
      clear K HP HOK L H1 H2
      go_region_held3 (fun w' => (w'.cell? ⟨g4, 0, none⟩ = some (.int .i64 a) ∧ w'.cell? ⟨g4, 1, none⟩ = some (.string ⟨U.toArray⟩) ∧ w'.cell? ⟨g4, 2, none⟩ = some (.slice A4 q.length c4) ∧ w'.cell? ⟨g4, 3, none⟩ = some (.string ⟨V.toArray⟩) ∧ w'.cell? ⟨g4, 4, none⟩ = some (.slice A5 r.length c5)) ∧
          w'.cell? ⟨g5, 0, none⟩ = some (.int .i64 a) ∧ w'.cell? ⟨g5, 1, none⟩ = some (.string ⟨U.toArray⟩) ∧ w'.cell? ⟨g5, 2, none⟩ = some (.slice A6 q.length c6) ∧ w'.cell? ⟨g5, 3, none⟩ = some (.string ⟨V.toArray⟩) ∧ w'.cell? ⟨g5, 4, none⟩ = some (.slice A7 r.length c7))
        (first | (refine KB.out _ ?_; first | assumption | exact belowE_dr hb0))
        (first
          | (go_at_call_of 13 A4; refine (TS.out _ ?_).mono ?_; (first | assumption | exact belowE_dr hb0); rintro e w6 ⟨rfl, hbx, hby⟩)
          | (go_at_call 14; refine (TI.out _ ?_).mono ?_; (first | assumption | exact belowE_dr hb0); rintro e w7 ⟨B1, k1, B2, k2, rfl, ri, hbx, hby⟩)
          | (go_at_call 15; refine (TJ.out _ ?_).mono ?_; (first | assumption | exact belowE_dr hb0); rintro e w8 ⟨B3, k3, B4, k4, rfl, rj, hbx, hby⟩)
          | (go_at_call 13; refine (refESame_any B1 B2 B3 B4 k1 k2 k3 k4 a V r U q _ ?_ ?_ ?_ ?_).mono ?_; (first | exact ri.out.now.1 | exact (ri.out.step hby).now.1); (first | exact ri.out.now.2 | exact (ri.out.step hby).now.2); (first | exact rj.out.now.1 | exact (rj.out.step hby).now.1); (first | exact rj.out.now.2 | exact (rj.out.step hby).now.2); rintro e w9 ⟨rfl, bb⟩; have hbz := hbx.trans (bb.mono hbx.size)))
      all_goals go_wp2
      all_goals go_ret
      all_goals exact ⟨rfl, BW.out _ hbz⟩
    · have H1 := Lib.hid (decide_eq_true hfit)
      have H2 := Lib.hid (decide_eq_false hfit2)
      clear hfit hfit2
      go_enter Try.func3, Try.ntmps3
      go_wp2_with (first
        | (go_at_call 9; refine (ediAlive_any _).mono ?_; rintro e w1 ⟨rfl, bb⟩; replace K := Lib.hid (K.out.step bb); clear y0 y1 z0 z1 u0 u1; clear bb; obtain ⟨y0, y1⟩ := txt_cells K.out.now.1.1; obtain ⟨z0, z1⟩ := txt_cells K.out.now.1.2.1; obtain ⟨u0, u1⟩ := txt_cells K.out.now.1.2.2.1)
        | (go_at_call_of 10 l; refine (lawFits_any S L.out.1.hS l L.out.1.hl A c _).mono ?_; rw [H1.out]; rintro e w2 ⟨rfl, bb⟩; replace K := Lib.hid (K.out.step bb); clear y0 y1 z0 z1 u0 u1; clear bb; obtain ⟨y0, y1⟩ := txt_cells K.out.now.1.1; obtain ⟨z0, z1⟩ := txt_cells K.out.now.1.2.1; obtain ⟨u0, u1⟩ := txt_cells K.out.now.1.2.2.1)
        | (go_at_call_of 10 m; refine (lawFits_any X L.out.2.hS m L.out.2.hl A2 d _).mono ?_; rw [H2.out]; rintro e w3 ⟨rfl, bb⟩; replace K := Lib.hid (K.out.step bb); clear y0 y1 z0 z1 u0 u1; clear bb; obtain ⟨y0, y1⟩ := txt_cells K.out.now.1.1; obtain ⟨z0, z1⟩ := txt_cells K.out.now.1.2.1; obtain ⟨u0, u1⟩ := txt_cells K.out.now.1.2.2.1))
      go_ret
      exact ⟨rfl, K.out.now.1.2.2.2⟩
  · have H1 := Lib.hid (decide_eq_false hfit)
    clear hfit
    go_enter Try.func3, Try.ntmps3
    go_wp2_with (first
      | (go_at_call 9; refine (ediAlive_any _).mono ?_; rintro e w1 ⟨rfl, bb⟩; replace K := Lib.hid (K.out.step bb); clear y0 y1 z0 z1 u0 u1; clear bb; obtain ⟨y0, y1⟩ := txt_cells K.out.now.1.1; obtain ⟨z0, z1⟩ := txt_cells K.out.now.1.2.1; obtain ⟨u0, u1⟩ := txt_cells K.out.now.1.2.2.1)
      | (go_at_call_of 10 l; refine (lawFits_any S L.out.1.hS l L.out.1.hl A c _).mono ?_; rw [H1.out]; rintro e w2 ⟨rfl, bb⟩; replace K := Lib.hid (K.out.step bb); clear y0 y1 z0 z1 u0 u1; clear bb; obtain ⟨y0, y1⟩ := txt_cells K.out.now.1.1; obtain ⟨z0, z1⟩ := txt_cells K.out.now.1.2.1; obtain ⟨u0, u1⟩ := txt_cells K.out.now.1.2.2.1))
    go_ret
    exact ⟨rfl, K.out.now.1.2.2.2⟩
end Go.Proofs.Ytmpliacojljchaa

/-
  Answers that the document fixes: layer 8.
-/
import Derived.Test.YtfeaffabminpfaaHiHx
namespace Go.Proofs.Ytfeaffabminpfaa
open Go.RowKit

/-- the three states that are added one behind the other -/
def AliveG : Nat → List StP → Prop
  | 0, G => G = [firstS]
  | 1, G => ∃ e1, G = [firstS, ⟨1, 0, e1⟩]
  | 2, G => ∃ e1 e2, G = [firstS, ⟨1, 0, e1⟩, ⟨2, 1, e2⟩]
  | 3, G => ∃ e2 e3, e3.a = 3 ∧ G = [⟨1, -1, zeroE⟩, ⟨2, 1, e2⟩, ⟨3, 2, e3⟩]
  | _, _ => False
theorem alive_step {k : Nat} (hk : k < 3) {G G' : List StP} (h : AliveG k G) {e : EdV} (he : e.a = (k : Int) + 1) (ha : AddTo (G ++ [⟨(k : Int) + 1, k, e⟩]) 2 ((k : Int) + 1) G') : AliveG (k + 1) G' := by
  match k, hk with
  | 0, _ =>
    obtain rfl : G = [firstS] := h
    rcases ha with ⟨_, rfl⟩ | ⟨hl, _⟩
    · exact ⟨e, rfl⟩
    · simp at hl
  | 1, _ =>
    obtain ⟨e1, rfl⟩ := h
    rcases ha with ⟨_, rfl⟩ | ⟨hl, _⟩
    · exact ⟨e1, e, rfl⟩
    · simp at hl
  | 2, _ =>
    obtain ⟨e1, e2, rfl⟩ := h
    rcases ha with ⟨hl, _⟩ | ⟨_, r0, p1, rest, hp, rfl⟩
    · simp at hl
    · have hpath : pathS ([firstS, ⟨1, 0, e1⟩, ⟨2, 1, e2⟩] ++ [⟨((2 : Nat) : Int) + 1, (2 : Nat), e⟩]) (((2 : Nat) : Int) + 1) = [0, 1, 2, 3] := by
        simp [pathS, backN, findS, firstS]
      rw [hpath] at hp
      injection hp with _ hp
      injection hp with hp _
      subst hp
      refine ⟨e2, e, he, ?_⟩
      simp [forgS, belowS, belowStep, firstS, zfix]
theorem alive_three {G : List StP} (h : AliveG 3 G) : G.map StP.n = [1, 2, 3] ∧ ∀ s ∈ G, s.n = 3 → s.up = 2 ∧ s.e.a = 3 := by
  obtain ⟨e2, e3, he, rfl⟩ := h
  refine ⟨rfl, fun s hs hn => ?_⟩
  simp at hs
  rcases hs with rfl | rfl | rfl
  · simp at hn
  · simp at hn
  · exact ⟨rfl, he⟩
theorem good_none {a : Int} (h : 0 ≤ a ∧ a ≤ 4096) : goodE a [] [] [] [] = true := (goodE_iff _ _ _ _ _).2 ⟨by decide, by decide, h.1, h.2⟩
theorem txu_none (w : World) : Txu w none [] [] := ⟨Nat.zero_le _, by intro x hx; simp at hx, Nat.zero_le _, .inl rfl⟩

set_option maxRecDepth 100000 in
set_option maxHeartbeats 4000000 in
theorem aliveH_any (w : World) : Calls Try.prog 8 #[] w fun e w' => e = .returned (.bool true) ∧ Below w.heap.size w w' := by
  go_enter Try.func8, Try.ntmps8
  go_wp2_with (go_at_call 9; refine (hiNew_any 2 (by decide) w).mono ?_; rintro e w1 ⟨p, b, rfl, hp, hb, h1, b1⟩; have H1 := Lib.hid (hx_new (by decide) h1); clear h1)
  go_loopw [2, 3, 4] (fun n _ _ wr => ∃ k : Nat, k ≤ 3 ∧ n = .int .i64 ((k : Int) + 1) ∧ ∃ G, Hx wr p b G 2 k k ∧ AliveG k G ∧ Below w.heap.size w wr) (fun n _ _ _ => (4 - intOf n).toNat)
  case atStart => exact ⟨0, by omega, rfl, [firstS], H1.out, rfl, b1⟩
  case round =>
    obtain ⟨k, hk, rfl, G, hx, hG, hbw⟩ := hrel
    have HX := Lib.hid hx
    have HG := Lib.hid hG
    clear hx hG
    have z := hbw.size
    by_cases hlt : k < 3
    · go_wp2_with (go_at_call 17; refine (HX.out.add (by omega) (txu_none _) (txu_none _) (good_none (a := (k : Int) + 1) (by omega)) (Nat.zero_le _) (Nat.zero_le _)).mono ?_; rintro e w2 ⟨A2, c2, B2, d2, G', rfl, hx2, ht2, ha2, _⟩)
      go_roundw
      case rel => exact ⟨k + 1, by omega, by go_num, G', by push_cast; exact hx2, alive_step hlt HG.out rfl ha2, hbw.trans (ht2.below hbw.size (fun j hj => by rcases hj with hj | hj <;> omega))⟩
      case measure => simp [intOf]; omega
    · have e3 : k = 3 := by omega
      have HG3 : Hid (AliveG 3 G) := by show AliveG 3 G; rw [← e3]; exact HG.out
      obtain ⟨hnums, h3⟩ := alive_three HG3.out
      obtain ⟨s, hs, hsn, hu⟩ := HX.out.undo
      obtain ⟨hup, hsa⟩ := h3 s hs (by rw [hsn, e3]; rfl)
      rcases hu with ⟨hu, _⟩ | ⟨_, _, hinv, hu⟩
      · omega
      rw [hup, hsa] at hu
      rw [hup] at hinv
      have HU := Lib.hid hu
      have HN := Lib.hid hnums
      have HI := Lib.hid hinv
      have hG : G.length = 3 := by rw [← List.length_map (f := StP.n), hnums]; rfl
      clear hu hnums h3 hs hsn hup hsa hinv e3 HG HG3
      have HS : Hid (∀ wz, Hst wz p b G 2 2 k → Calls Try.prog 21 #[.pointer (some ⟨p, 0, none⟩)] wz (GivesI wz [1, 2, 3])) := by
        show ∀ wz, _
        intro wz hz
        have := hiStates_any hz (by omega) HI.out.hup
        rwa [HN.out] at this
      go_upto_region 11 with (go_at_call 12; refine HU.out.mono ?_; rintro e w3 ⟨A3, c3, A4, d4, rfl, hh3, _, _, t3⟩; have H3 := Lib.hid hh3; have T3 := Lib.hid t3; clear hh3 t3)
      have K := Lib.hid (hst_box H3.out #[.int .i64 3, .string ⟨s.e.X.toArray⟩, .slice A3 s.e.m.length c3, .string ⟨s.e.S.toArray⟩, .slice A4 s.e.l.length d4] 34)
      have hz : w3.heap.size ≤ (w3.alloc (.cells #[.int .i64 3, .string ⟨s.e.X.toArray⟩, .slice A3 s.e.m.length c3, .string ⟨s.e.S.toArray⟩, .slice A4 s.e.l.length d4] 34)).heap.size := by simp
      generalize w3.alloc (.cells #[.int .i64 3, .string ⟨s.e.X.toArray⟩, .slice A3 s.e.m.length c3, .string ⟨s.e.S.toArray⟩, .slice A4 s.e.l.length d4] 34) = wx at *
      obtain ⟨y0, y1, y2, y3, y4⟩ := ed_cells K.out.now.1
      clear y1 y2 y3 y4
      go_wp2_with (first
        | (go_at_call 19; refine (hiNow_any K.out.now.2.1).mono ?_; rintro e w' ⟨rfl, rfl⟩)
        | (go_at_call 21; refine (HS.out _ K.out.now.2.1).mono ?_; rintro e w5 ⟨A5, c5, rfl, own5, b5⟩; have O5 := Lib.hid own5; have B5 := Lib.hid b5; clear own5 b5 y0)
        | (go_at_call 20; refine (refInts_any A5 (some ⟨w5.heap.size, 0, none⟩) c5 3 [1, 2, 3] [1, 2, 3] (by simp) (by simp) _ (((Row.of_own O5.out).alloc (Nat.le_refl _) _).more (by simp)) ((row_newL w5 3 ([1, 2, 3].map intz)).more (by simp))).mono ?_; rintro e w6 ⟨rfl, b6⟩))
      go_ret
      refine ⟨by rfl, ?_⟩
      have hT : Below w.heap.size w w3 := hbw.trans (T3.out.below hbw.size (fun j hj => by omega))
      have h4 := hT.trans (K.out.now.2.2.mono hT.size)
      have h5 := h4.trans (B5.out.mono h4.size)
      have h6 := h5.alloc h5.size (.cells #[.int .i64 1, .int .i64 2, .int .i64 3] 3)
      exact h6.trans (b6.mono h6.size)
end Go.Proofs.Ytfeaffabminpfaa

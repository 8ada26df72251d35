/-
  For any edit and any place: where it goes is the document's, and it comes back (over what edit says): layer 7.
-/
import Derived.Test.YtmpliacojljchaaEdiAlive
namespace Go.Proofs.Ytmpliacojljchaa
open Go.RowKit

theorem Txu.of {w w' : World} {B : Nat} {A A2 : Option Addr} {S : List UInt8} {l : List RunP} (h : Txt w B A S l) (r : Row w' w'.heap.size A2 (flatR l)) : Txu w' A2 S l := ⟨h.hS, h.hf, h.hl, r⟩
theorem follow_bound {a : Int} {S X : List UInt8} {l m : List RunP} {p : Int} (hp : -9223372036854775808 ≤ p ∧ p ≤ 9223372036854775807) : -9223372036854775808 ≤ followE a S l X m p ∧ followE a S l X m p ≤ 9223372036854775807 := by
  unfold followE
  split
  · next h =>
    obtain ⟨gS, gX, h0, h1⟩ := (goodE_iff a S X l m).1 h.1
    have s1 := (goodT_size gS).1
    have x1 := (goodT_size gX).1
    split <;> omega
  · exact hp
theorem follow_back {a : Int} {S X : List UInt8} {l m : List RunP} {p : Int} (hg : goodE a S l X m = true) (h0 : 0 ≤ p) (h1 : p ≤ 4096) (h2 : 0 ≤ followE a S l X m p) (h3 : followE a S l X m p ≤ 4096) (h4 : ¬ (a < p ∧ p ≤ a + (S.length : Int))) :
    followE a X m S l (followE a S l X m p) = p := by
  obtain ⟨gS, gX, ha0, ha1⟩ := (goodE_iff a S X l m).1 hg
  have hg2 : goodE a X m S l = true := (goodE_iff a X S m l).2 ⟨gX, gS, ha0, ha1⟩
  by_cases hpa : p ≤ a
  · have e : followE a S l X m p = p := by unfold followE; rw [if_neg]; intro h; omega
    rw [e]
    unfold followE
    rw [if_neg]; intro h; omega
  · have e : followE a S l X m p = p + (X.length : Int) - (S.length : Int) := by unfold followE; rw [if_pos ⟨hg, h0, h1, by omega⟩, if_pos (by omega)]
    rw [e] at h2 h3 ⊢
    unfold followE
    rw [if_pos ⟨hg2, h2, h3, by omega⟩, if_pos (by omega)]
    omega

set_option maxHeartbeats 2000000 in
theorem editFollows_walk (w : World) (a : Int) (S : List UInt8) (A : Option Addr) (l : List RunP) (c : Nat) (X : List UInt8) (A2 : Option Addr) (m : List RunP) (d : Nat) (h : Txt w w.heap.size A S l) (hh : Txt w w.heap.size A2 X m) (p : Int) (hp : -9223372036854775808 ≤ p ∧ p ≤ 9223372036854775807) :
    Calls Try.prog 4 #[.agg #[.int .i64 a, .string ⟨S.toArray⟩, .slice A l.length c, .string ⟨X.toArray⟩, .slice A2 m.length d], .int .i64 p] w fun e w' => e = .returned (.bool true) ∧ Below w.heap.size w w' := by
  have L := Lib.hid (And.intro h hh)
  have BX := Lib.hid ((blk_box (T := 29) (cs := #[.int .i64 a, .string ⟨S.toArray⟩, .slice A l.length c, .string ⟨X.toArray⟩, .slice A2 m.length d]) w).and (bel_box (Below.refl w.heap.size w) (.cells #[.int .i64 a, .string ⟨S.toArray⟩, .slice A l.length c, .string ⟨X.toArray⟩, .slice A2 m.length d] 29)))
  have K := Lib.hid (BX.out.and (((grow_txu h).and (grow_txu hh)).step BX.out.now.2))
  clear h hh BX
  obtain ⟨y0, y1, y2, y3, y4⟩ := ed_cells K.out.now.1.1
  by_cases hfit : (S.length ≤ 5000 ∧ l.length ≤ 5000) ∧ (X.length ≤ 5000 ∧ m.length ≤ 5000)
  · obtain ⟨q, hq⟩ : ∃ q, followE a S l X m p = q := ⟨_, rfl⟩
    have HB : Hid (-9223372036854775808 ≤ q ∧ q ≤ 9223372036854775807) := by show _ ∧ _; rw [← hq]; exact follow_bound hp
    have HQ := Lib.hid hq
    clear hq
    have H1 := Lib.hid (decide_eq_true hfit)
    have hl5 : l.length ≤ 5000 := hfit.1.2
    have hm5 : m.length ≤ 5000 := hfit.2.2
    clear hfit
    by_cases hg : goodE a S l X m = true
    · have GA := (goodE_iff a S X l m).1 hg
      have ha0 : 0 ≤ a := GA.2.2.1
      have ha1 : a ≤ 4096 := GA.2.2.2
      have hs1 : S.length ≤ 4096 := (goodT_size GA.1).1
      clear GA
      by_cases hc : (0 ≤ p ∧ p ≤ 4096) ∧ (0 ≤ q ∧ q ≤ 4096) ∧ ¬ (a < p ∧ p ≤ a + (S.length : Int))
      · have HF : Hid (followE a X m S l q = p) := by show _ = _; have e := follow_back hg hc.1.1 hc.1.2 (by rw [HQ.out]; exact hc.2.1.1) (by rw [HQ.out]; exact hc.2.1.2) hc.2.2; rw [HQ.out] at e; exact e
        obtain ⟨⟨c1, c2⟩, ⟨c3, c4⟩, c5⟩ := hc
        by_cases hpa : a < p
        · have hps : a + (S.length : Int) < p := by omega
          clear c5
          go_enter Try.func4, Try.ntmps4
          go_wp2_with (first
            | (go_at_call 9; refine (ediAlive_any _).mono ?_; rintro e w1 ⟨rfl, bb⟩; replace K := Lib.hid (K.out.step bb); clear bb y0 y1 y2 y3 y4; obtain ⟨y0, y1, y2, y3, y4⟩ := ed_cells K.out.now.1.1)
            | (go_at_call 16; refine (lawEFits_any A A2 c d a S X l m _ L.out.1.hS L.out.1.hl L.out.2.hS L.out.2.hl).mono ?_; rw [H1.out]; rintro e w2 ⟨rfl, bb⟩; replace K := Lib.hid (K.out.step bb); clear bb y0 y1 y2 y3 y4; obtain ⟨y0, y1, y2, y3, y4⟩ := ed_cells K.out.now.1.1)
            | (go_at_call_of 17 p; refine (ediFollow_any A A2 c d a S l X m p hp _ K.out.now.2.1 K.out.now.2.2).mono ?_; rw [HQ.out]; rintro e w3 ⟨rfl, bb⟩; replace K := Lib.hid (K.out.step bb); clear bb y0 y1 y2 y3 y4; obtain ⟨y0, y1, y2, y3, y4⟩ := ed_cells K.out.now.1.1)
            | (go_at_call 18; refine (refEFollow_any A A2 c d a S l X m p hp _ K.out.now.2.1 K.out.now.2.2).mono ?_; rw [HQ.out]; rintro e w4 ⟨rfl, bb⟩; replace K := Lib.hid (K.out.step bb); clear bb y0 y1 y2 y3 y4; obtain ⟨y0, y1, y2, y3, y4⟩ := ed_cells K.out.now.1.1)
            | (go_at_call 19; refine (refEGood_any A A2 c d a S X l m _ K.out.now.2.1 K.out.now.2.2).mono ?_; rw [hg]; rintro e w5 ⟨rfl, bb⟩; replace K := Lib.hid (K.out.step bb); clear bb y0 y1 y2 y3 y4; obtain ⟨y0, y1, y2, y3, y4⟩ := ed_cells K.out.now.1.1)
            | (go_at_call 14; refine (ediInvert_any A A2 c d a S l X m (by omega) (by omega) _ K.out.now.2.1 K.out.now.2.2).mono ?_; rintro e w6 ⟨A3, c3, A4, c4, rfl, r3, r4, bb⟩; replace K := Lib.hid (((grow_txu (Txu.of L.out.2 r3)).and (grow_txu (Txu.of L.out.1 r4))).and (K.out.step bb)); clear r3 r4 bb y0 y1 y2 y3 y4)
            | (go_at_call 17; refine (ediFollow_any A3 A4 c3 c4 a X m S l q HB.out _ K.out.now.1.1 K.out.now.1.2).mono ?_; rw [HF.out]; rintro e w7 ⟨rfl, bb⟩; replace K := Lib.hid (K.out.step bb); clear bb))
          all_goals go_ret
          all_goals exact ⟨by first | rfl | (simp; done), K.out.now.2.1.2⟩
        · clear c5
          go_enter Try.func4, Try.ntmps4
          go_wp2_with (first
            | (go_at_call 9; refine (ediAlive_any _).mono ?_; rintro e w1 ⟨rfl, bb⟩; replace K := Lib.hid (K.out.step bb); clear bb y0 y1 y2 y3 y4; obtain ⟨y0, y1, y2, y3, y4⟩ := ed_cells K.out.now.1.1)
            | (go_at_call 16; refine (lawEFits_any A A2 c d a S X l m _ L.out.1.hS L.out.1.hl L.out.2.hS L.out.2.hl).mono ?_; rw [H1.out]; rintro e w2 ⟨rfl, bb⟩; replace K := Lib.hid (K.out.step bb); clear bb y0 y1 y2 y3 y4; obtain ⟨y0, y1, y2, y3, y4⟩ := ed_cells K.out.now.1.1)
            | (go_at_call_of 17 p; refine (ediFollow_any A A2 c d a S l X m p hp _ K.out.now.2.1 K.out.now.2.2).mono ?_; rw [HQ.out]; rintro e w3 ⟨rfl, bb⟩; replace K := Lib.hid (K.out.step bb); clear bb y0 y1 y2 y3 y4; obtain ⟨y0, y1, y2, y3, y4⟩ := ed_cells K.out.now.1.1)
            | (go_at_call 18; refine (refEFollow_any A A2 c d a S l X m p hp _ K.out.now.2.1 K.out.now.2.2).mono ?_; rw [HQ.out]; rintro e w4 ⟨rfl, bb⟩; replace K := Lib.hid (K.out.step bb); clear bb y0 y1 y2 y3 y4; obtain ⟨y0, y1, y2, y3, y4⟩ := ed_cells K.out.now.1.1)
            | (go_at_call 19; refine (refEGood_any A A2 c d a S X l m _ K.out.now.2.1 K.out.now.2.2).mono ?_; rw [hg]; rintro e w5 ⟨rfl, bb⟩; replace K := Lib.hid (K.out.step bb); clear bb y0 y1 y2 y3 y4; obtain ⟨y0, y1, y2, y3, y4⟩ := ed_cells K.out.now.1.1)
            | (go_at_call 14; refine (ediInvert_any A A2 c d a S l X m (by omega) (by omega) _ K.out.now.2.1 K.out.now.2.2).mono ?_; rintro e w6 ⟨A3, c3, A4, c4, rfl, r3, r4, bb⟩; replace K := Lib.hid (((grow_txu (Txu.of L.out.2 r3)).and (grow_txu (Txu.of L.out.1 r4))).and (K.out.step bb)); clear r3 r4 bb y0 y1 y2 y3 y4)
            | (go_at_call 17; refine (ediFollow_any A3 A4 c3 c4 a X m S l q HB.out _ K.out.now.1.1 K.out.now.1.2).mono ?_; rw [HF.out]; rintro e w7 ⟨rfl, bb⟩; replace K := Lib.hid (K.out.step bb); clear bb))
          all_goals go_ret
          all_goals exact ⟨by first | rfl | (simp; done), K.out.now.2.1.2⟩
      · by_cases c1 : p < 0
        · clear hc
          go_enter Try.func4, Try.ntmps4
          go_wp2_with (first
            | (go_at_call 9; refine (ediAlive_any _).mono ?_; rintro e w1 ⟨rfl, bb⟩; replace K := Lib.hid (K.out.step bb); clear bb y0 y1 y2 y3 y4; obtain ⟨y0, y1, y2, y3, y4⟩ := ed_cells K.out.now.1.1)
            | (go_at_call 16; refine (lawEFits_any A A2 c d a S X l m _ L.out.1.hS L.out.1.hl L.out.2.hS L.out.2.hl).mono ?_; rw [H1.out]; rintro e w2 ⟨rfl, bb⟩; replace K := Lib.hid (K.out.step bb); clear bb y0 y1 y2 y3 y4; obtain ⟨y0, y1, y2, y3, y4⟩ := ed_cells K.out.now.1.1)
            | (go_at_call_of 17 p; refine (ediFollow_any A A2 c d a S l X m p hp _ K.out.now.2.1 K.out.now.2.2).mono ?_; rw [HQ.out]; rintro e w3 ⟨rfl, bb⟩; replace K := Lib.hid (K.out.step bb); clear bb y0 y1 y2 y3 y4; obtain ⟨y0, y1, y2, y3, y4⟩ := ed_cells K.out.now.1.1)
            | (go_at_call 18; refine (refEFollow_any A A2 c d a S l X m p hp _ K.out.now.2.1 K.out.now.2.2).mono ?_; rw [HQ.out]; rintro e w4 ⟨rfl, bb⟩; replace K := Lib.hid (K.out.step bb); clear bb y0 y1 y2 y3 y4; obtain ⟨y0, y1, y2, y3, y4⟩ := ed_cells K.out.now.1.1)
            | (go_at_call 19; refine (refEGood_any A A2 c d a S X l m _ K.out.now.2.1 K.out.now.2.2).mono ?_; rw [hg]; rintro e w5 ⟨rfl, bb⟩; replace K := Lib.hid (K.out.step bb); clear bb y0 y1 y2 y3 y4; obtain ⟨y0, y1, y2, y3, y4⟩ := ed_cells K.out.now.1.1))
          all_goals go_ret
          all_goals exact ⟨by first | rfl | (simp; done), K.out.now.1.2⟩
        · by_cases c2 : 4096 < p
          · clear hc
            go_enter Try.func4, Try.ntmps4
            go_wp2_with (first
              | (go_at_call 9; refine (ediAlive_any _).mono ?_; rintro e w1 ⟨rfl, bb⟩; replace K := Lib.hid (K.out.step bb); clear bb y0 y1 y2 y3 y4; obtain ⟨y0, y1, y2, y3, y4⟩ := ed_cells K.out.now.1.1)
              | (go_at_call 16; refine (lawEFits_any A A2 c d a S X l m _ L.out.1.hS L.out.1.hl L.out.2.hS L.out.2.hl).mono ?_; rw [H1.out]; rintro e w2 ⟨rfl, bb⟩; replace K := Lib.hid (K.out.step bb); clear bb y0 y1 y2 y3 y4; obtain ⟨y0, y1, y2, y3, y4⟩ := ed_cells K.out.now.1.1)
              | (go_at_call_of 17 p; refine (ediFollow_any A A2 c d a S l X m p hp _ K.out.now.2.1 K.out.now.2.2).mono ?_; rw [HQ.out]; rintro e w3 ⟨rfl, bb⟩; replace K := Lib.hid (K.out.step bb); clear bb y0 y1 y2 y3 y4; obtain ⟨y0, y1, y2, y3, y4⟩ := ed_cells K.out.now.1.1)
              | (go_at_call 18; refine (refEFollow_any A A2 c d a S l X m p hp _ K.out.now.2.1 K.out.now.2.2).mono ?_; rw [HQ.out]; rintro e w4 ⟨rfl, bb⟩; replace K := Lib.hid (K.out.step bb); clear bb y0 y1 y2 y3 y4; obtain ⟨y0, y1, y2, y3, y4⟩ := ed_cells K.out.now.1.1)
              | (go_at_call 19; refine (refEGood_any A A2 c d a S X l m _ K.out.now.2.1 K.out.now.2.2).mono ?_; rw [hg]; rintro e w5 ⟨rfl, bb⟩; replace K := Lib.hid (K.out.step bb); clear bb y0 y1 y2 y3 y4; obtain ⟨y0, y1, y2, y3, y4⟩ := ed_cells K.out.now.1.1))
            all_goals go_ret
            all_goals exact ⟨by first | rfl | (simp; done), K.out.now.1.2⟩
          · by_cases c3 : q < 0
            · clear hc
              go_enter Try.func4, Try.ntmps4
              go_wp2_with (first
                | (go_at_call 9; refine (ediAlive_any _).mono ?_; rintro e w1 ⟨rfl, bb⟩; replace K := Lib.hid (K.out.step bb); clear bb y0 y1 y2 y3 y4; obtain ⟨y0, y1, y2, y3, y4⟩ := ed_cells K.out.now.1.1)
                | (go_at_call 16; refine (lawEFits_any A A2 c d a S X l m _ L.out.1.hS L.out.1.hl L.out.2.hS L.out.2.hl).mono ?_; rw [H1.out]; rintro e w2 ⟨rfl, bb⟩; replace K := Lib.hid (K.out.step bb); clear bb y0 y1 y2 y3 y4; obtain ⟨y0, y1, y2, y3, y4⟩ := ed_cells K.out.now.1.1)
                | (go_at_call_of 17 p; refine (ediFollow_any A A2 c d a S l X m p hp _ K.out.now.2.1 K.out.now.2.2).mono ?_; rw [HQ.out]; rintro e w3 ⟨rfl, bb⟩; replace K := Lib.hid (K.out.step bb); clear bb y0 y1 y2 y3 y4; obtain ⟨y0, y1, y2, y3, y4⟩ := ed_cells K.out.now.1.1)
                | (go_at_call 18; refine (refEFollow_any A A2 c d a S l X m p hp _ K.out.now.2.1 K.out.now.2.2).mono ?_; rw [HQ.out]; rintro e w4 ⟨rfl, bb⟩; replace K := Lib.hid (K.out.step bb); clear bb y0 y1 y2 y3 y4; obtain ⟨y0, y1, y2, y3, y4⟩ := ed_cells K.out.now.1.1)
                | (go_at_call 19; refine (refEGood_any A A2 c d a S X l m _ K.out.now.2.1 K.out.now.2.2).mono ?_; rw [hg]; rintro e w5 ⟨rfl, bb⟩; replace K := Lib.hid (K.out.step bb); clear bb y0 y1 y2 y3 y4; obtain ⟨y0, y1, y2, y3, y4⟩ := ed_cells K.out.now.1.1))
              all_goals go_ret
              all_goals exact ⟨by first | rfl | (simp; done), K.out.now.1.2⟩
            · by_cases c4 : 4096 < q
              · clear hc
                go_enter Try.func4, Try.ntmps4
                go_wp2_with (first
                  | (go_at_call 9; refine (ediAlive_any _).mono ?_; rintro e w1 ⟨rfl, bb⟩; replace K := Lib.hid (K.out.step bb); clear bb y0 y1 y2 y3 y4; obtain ⟨y0, y1, y2, y3, y4⟩ := ed_cells K.out.now.1.1)
                  | (go_at_call 16; refine (lawEFits_any A A2 c d a S X l m _ L.out.1.hS L.out.1.hl L.out.2.hS L.out.2.hl).mono ?_; rw [H1.out]; rintro e w2 ⟨rfl, bb⟩; replace K := Lib.hid (K.out.step bb); clear bb y0 y1 y2 y3 y4; obtain ⟨y0, y1, y2, y3, y4⟩ := ed_cells K.out.now.1.1)
                  | (go_at_call_of 17 p; refine (ediFollow_any A A2 c d a S l X m p hp _ K.out.now.2.1 K.out.now.2.2).mono ?_; rw [HQ.out]; rintro e w3 ⟨rfl, bb⟩; replace K := Lib.hid (K.out.step bb); clear bb y0 y1 y2 y3 y4; obtain ⟨y0, y1, y2, y3, y4⟩ := ed_cells K.out.now.1.1)
                  | (go_at_call 18; refine (refEFollow_any A A2 c d a S l X m p hp _ K.out.now.2.1 K.out.now.2.2).mono ?_; rw [HQ.out]; rintro e w4 ⟨rfl, bb⟩; replace K := Lib.hid (K.out.step bb); clear bb y0 y1 y2 y3 y4; obtain ⟨y0, y1, y2, y3, y4⟩ := ed_cells K.out.now.1.1)
                  | (go_at_call 19; refine (refEGood_any A A2 c d a S X l m _ K.out.now.2.1 K.out.now.2.2).mono ?_; rw [hg]; rintro e w5 ⟨rfl, bb⟩; replace K := Lib.hid (K.out.step bb); clear bb y0 y1 y2 y3 y4; obtain ⟨y0, y1, y2, y3, y4⟩ := ed_cells K.out.now.1.1))
                all_goals go_ret
                all_goals exact ⟨by first | rfl | (simp; done), K.out.now.1.2⟩
              · have c5 : a < p := by omega
                have c6 : p ≤ a + (S.length : Int) := by omega
                clear hc
                go_enter Try.func4, Try.ntmps4
                go_wp2_with (first
                  | (go_at_call 9; refine (ediAlive_any _).mono ?_; rintro e w1 ⟨rfl, bb⟩; replace K := Lib.hid (K.out.step bb); clear bb y0 y1 y2 y3 y4; obtain ⟨y0, y1, y2, y3, y4⟩ := ed_cells K.out.now.1.1)
                  | (go_at_call 16; refine (lawEFits_any A A2 c d a S X l m _ L.out.1.hS L.out.1.hl L.out.2.hS L.out.2.hl).mono ?_; rw [H1.out]; rintro e w2 ⟨rfl, bb⟩; replace K := Lib.hid (K.out.step bb); clear bb y0 y1 y2 y3 y4; obtain ⟨y0, y1, y2, y3, y4⟩ := ed_cells K.out.now.1.1)
                  | (go_at_call_of 17 p; refine (ediFollow_any A A2 c d a S l X m p hp _ K.out.now.2.1 K.out.now.2.2).mono ?_; rw [HQ.out]; rintro e w3 ⟨rfl, bb⟩; replace K := Lib.hid (K.out.step bb); clear bb y0 y1 y2 y3 y4; obtain ⟨y0, y1, y2, y3, y4⟩ := ed_cells K.out.now.1.1)
                  | (go_at_call 18; refine (refEFollow_any A A2 c d a S l X m p hp _ K.out.now.2.1 K.out.now.2.2).mono ?_; rw [HQ.out]; rintro e w4 ⟨rfl, bb⟩; replace K := Lib.hid (K.out.step bb); clear bb y0 y1 y2 y3 y4; obtain ⟨y0, y1, y2, y3, y4⟩ := ed_cells K.out.now.1.1)
                  | (go_at_call 19; refine (refEGood_any A A2 c d a S X l m _ K.out.now.2.1 K.out.now.2.2).mono ?_; rw [hg]; rintro e w5 ⟨rfl, bb⟩; replace K := Lib.hid (K.out.step bb); clear bb y0 y1 y2 y3 y4; obtain ⟨y0, y1, y2, y3, y4⟩ := ed_cells K.out.now.1.1))
                all_goals go_ret
                all_goals exact ⟨by first | rfl | (simp; done), K.out.now.1.2⟩
    · rw [Bool.not_eq_true] at hg
      go_enter Try.func4, Try.ntmps4
      go_wp2_with (first
        | (go_at_call 9; refine (ediAlive_any _).mono ?_; rintro e w1 ⟨rfl, bb⟩; replace K := Lib.hid (K.out.step bb); clear bb y0 y1 y2 y3 y4; obtain ⟨y0, y1, y2, y3, y4⟩ := ed_cells K.out.now.1.1)
        | (go_at_call 16; refine (lawEFits_any A A2 c d a S X l m _ L.out.1.hS L.out.1.hl L.out.2.hS L.out.2.hl).mono ?_; rw [H1.out]; rintro e w2 ⟨rfl, bb⟩; replace K := Lib.hid (K.out.step bb); clear bb y0 y1 y2 y3 y4; obtain ⟨y0, y1, y2, y3, y4⟩ := ed_cells K.out.now.1.1)
        | (go_at_call_of 17 p; refine (ediFollow_any A A2 c d a S l X m p hp _ K.out.now.2.1 K.out.now.2.2).mono ?_; rw [HQ.out]; rintro e w3 ⟨rfl, bb⟩; replace K := Lib.hid (K.out.step bb); clear bb y0 y1 y2 y3 y4; obtain ⟨y0, y1, y2, y3, y4⟩ := ed_cells K.out.now.1.1)
        | (go_at_call 18; refine (refEFollow_any A A2 c d a S l X m p hp _ K.out.now.2.1 K.out.now.2.2).mono ?_; rw [HQ.out]; rintro e w4 ⟨rfl, bb⟩; replace K := Lib.hid (K.out.step bb); clear bb y0 y1 y2 y3 y4; obtain ⟨y0, y1, y2, y3, y4⟩ := ed_cells K.out.now.1.1)
        | (go_at_call 19; refine (refEGood_any A A2 c d a S X l m _ K.out.now.2.1 K.out.now.2.2).mono ?_; rw [hg]; rintro e w5 ⟨rfl, bb⟩; replace K := Lib.hid (K.out.step bb); clear bb y0 y1 y2 y3 y4; obtain ⟨y0, y1, y2, y3, y4⟩ := ed_cells K.out.now.1.1))
      all_goals go_ret
      all_goals exact ⟨by first | rfl | (simp; done), K.out.now.1.2⟩
  · have H1 := Lib.hid (decide_eq_false hfit)
    clear hfit
    go_enter Try.func4, Try.ntmps4
    go_wp2_with (first
      | (go_at_call 9; refine (ediAlive_any _).mono ?_; rintro e w1 ⟨rfl, bb⟩; replace K := Lib.hid (K.out.step bb); clear bb y0 y1 y2 y3 y4; obtain ⟨y0, y1, y2, y3, y4⟩ := ed_cells K.out.now.1.1)
      | (go_at_call 16; refine (lawEFits_any A A2 c d a S X l m _ L.out.1.hS L.out.1.hl L.out.2.hS L.out.2.hl).mono ?_; rw [H1.out]; rintro e w2 ⟨rfl, bb⟩; replace K := Lib.hid (K.out.step bb); clear bb y0 y1 y2 y3 y4; obtain ⟨y0, y1, y2, y3, y4⟩ := ed_cells K.out.now.1.1))
    go_ret
    exact ⟨rfl, K.out.now.1.2⟩
end Go.Proofs.Ytmpliacojljchaa

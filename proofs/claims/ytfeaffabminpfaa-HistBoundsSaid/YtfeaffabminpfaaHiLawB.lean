/-
  There are never more states than may be, the present one is among them, numbers rise on the way to it: layer 8.
-/
import Derived.Test.YtfeaffabminpfaaHiAlive
import Derived.Test.YtfeaffabminpfaaHiDoes
import Derived.BigQuiet
namespace Go.Proofs.Ytfeaffabminpfaa
open Go.RowKit

/-- numbers in a row of their own, for good -/
theorem ints_grow {w : World} {base c : Nat} {A : Option Addr} {p : List Int} {n : Nat} (h : w.ownsRow base 3 1 (.slice A n c) n (p.map intz)) (h0 : 0 < n) : ∃ g, A = some ⟨g, 0, none⟩ ∧ Grow w (fun w' => ∀ (k : Nat) (hk : k < p.length), w'.cell? ⟨g, k, none⟩ = some (.int .i64 p[k])) := by
  obtain ⟨g, rfl, hc⟩ := ints_at h h0
  obtain ⟨g', c', e, _, hlt⟩ := own_at h h0
  have e := (Value.slice.inj e).1
  injection e with e
  injection e with e _ _
  refine ⟨g, rfl, fun w' hb k hk => ?_⟩
  rw [← hc k hk]
  exact hb.cell (p := ⟨g, k, none⟩) (by show g < _; omega)
/-- the list of a history's states, and the way to the present one -/
structure Nums (l q : List Int) (now dep : Int) : Prop where
  one : 1 ≤ l.length
  most : (l.length : Int) ≤ dep + 1
  way : 1 ≤ q.length
  few : q.length ≤ l.length
  first : q[0]? = l[0]?
  last : q[q.length - 1]? = some now
  up : l.Pairwise (· < ·)
  rise : q.Pairwise (· < ·)
  sub : ∀ x ∈ q, x ∈ l
theorem nums_of {G : List StP} {now last dep : Int} (h : InvS G now last dep) : Nums (G.map StP.n) (pathS G now) now dep := by
  obtain ⟨f, M, rest, hG, hp⟩ := h.path_first
  obtain ⟨pre, hl⟩ := h.path_last
  refine ⟨by have := h.pos; rw [List.length_map]; omega, by have := h.hlen; simpa using this, by rw [hp]; simp, by have := h.path_len; simpa using this, by rw [hp, hG]; rfl, by rw [hl]; simp, upS_nums h.hup, ?_, fun x hx => ?_⟩
  · have key : ∀ (rest pre : List Int) (a : Int), pathS G now = pre ++ a :: rest → (a :: rest).Pairwise (· < ·) := by
      intro rest
      induction rest with
      | nil => intro pre a _; exact List.pairwise_singleton _ _
      | cons y rest ih =>
        intro pre a e
        have h1 := (h.path_next e).1
        have h2 := ih (pre ++ [a]) y (by rw [e]; simp)
        refine List.pairwise_cons.2 ⟨fun z hz => ?_, h2⟩
        rcases List.mem_cons.1 hz with rfl | hz
        · exact h1
        · have := (List.pairwise_cons.1 h2).1 z hz; omega
    rw [hp]
    exact key rest [] f.n hp
  · obtain ⟨s, hs, e⟩ := h.path_mem x hx
    exact List.mem_map.2 ⟨s, hs, e⟩

set_option maxRecDepth 100000 in
set_option maxHeartbeats 40000000 in
theorem histBounds_walk (w : World) (n : Int) (_hn : -9223372036854775808 ≤ n ∧ n ≤ 9223372036854775807) (A : Option Addr) (c : Nat) (acs : List ActE) (_hlen : acs.length ≤ maxLen) (hA : ∀ a ∈ acs, ActEOk w a) (row : Row w w.heap.size A (flatE acs)) :
    Calls Try.prog 4 #[.int .i64 n, .slice A acs.length c] w fun e w' => e = .returned (.bool true) ∧ Below w.heap.size w w' := by
  have HA := Lib.hid hA
  clear hA
  have hlen := _hlen
  unfold maxLen at hlen
  by_cases hr : 1 ≤ n ∧ n ≤ 64
  · go_enter Try.func4, Try.ntmps4
    go_wp2_with (first
      | (go_at_call 8; refine (aliveH_any _).mono ?_; rintro e w1 ⟨rfl, b1⟩)
      | (go_at_call 9; refine (hiNew_any n hr w1).mono ?_; rintro e w2 ⟨p, b, rfl, hp, hb, h2, b2⟩; have H2 := Lib.hid (hx_new hr h2); clear h2))
    have z1 := b1.size
    have B2 := Lib.hid (b1.trans (b2.mono b1.size))
    clear b1 b2
    go_loopw [6] (fun i wr => ∃ k : Nat, k ≤ acs.length ∧ i = .int .i64 k ∧ ∃ G now last, Hx wr p b G n now last ∧ last ≤ k ∧ k ≤ 80 ∧ Below w.heap.size w wr) (fun i _ => acs.length - (intOf i).toNat)
    case atStart => exact ⟨0, Nat.zero_le _, rfl, _, _, _, H2.out, by omega, by omega, B2.out⟩
    case round =>
      obtain ⟨k, hk, rfl, G, now, last, hx, hlk, hk80, hbw⟩ := hrel
      have HX := Lib.hid hx
      have BW := Lib.hid hbw
      have zr := hbw.size
      clear hx hbw H2 B2
      by_cases hin : k < acs.length ∧ k < 80
      · obtain ⟨hlt, h80⟩ := hin
        have hlt' : (k : Int) < (acs.length : Int) := by omega
        have h80' : (k : Int) < 80 := by omega
        obtain ⟨ad, rfl, hd⟩ := actE_grow row hlt
        have HD := Lib.hid hd
        have HT := Lib.hid (HA.out acs[k] (List.getElem_mem hlt))
        clear hd
        generalize acs[k] = r at *
        obtain ⟨kind, ⟨a, S, A1, l, c1, X, B1, m, d⟩, fo⟩ := r
        have hkind := HT.out.hk
        have TS := Lib.hid (And.intro ((Txt.below HT.out.old BW.out).more zr) ((Txt.below HT.out.new BW.out).more zr))
        dsimp only at hkind
        obtain ⟨d0, d1, d2, d3, d4, d5, d6⟩ := HD.out _ BW.out
        dsimp only at d0 d1 d2 d3 d4 d5 d6
        by_cases hf : (S.length ≤ 5000 ∧ l.length ≤ 5000) ∧ (X.length ≤ 5000 ∧ m.length ≤ 5000)
        · have HF := Lib.hid hf
          clear hf
          go_upto_region 10 with (go_at_call 11; refine (lawEFits_any A1 B1 c1 d a S X l m _ TS.out.1.hS TS.out.1.hl TS.out.2.hS TS.out.2.hl).mono ?_; rw [decide_eq_true HF.out]; rintro e w3 ⟨rfl, b3⟩; have B3 := Lib.hid (BW.out.trans (b3.mono zr)); have H3 := Lib.hid (HX.out.fresh b3); have T3 := Lib.hid (And.intro (grow_txu (show Txu _ _ _ _ from TS.out.1) _ b3) (grow_txu (show Txu _ _ _ _ from TS.out.2) _ b3)); clear d0 d1 d2 d3 d4 d5 d6 b3; obtain ⟨d0, d1, d2, d3, d4, d5, d6⟩ := HD.out _ B3.out; dsimp only at d0 d1 d2 d3 d4 d5 d6)
          go_upto_region 12 with (first
            | (go_at_call 25; refine (does_any H3.out (by omega) kind hkind fo T3.out.1 T3.out.2 HF.out.1.2 HF.out.2.2).mono ?_; intro e w4 hL; obtain ⟨⟨v, rfl⟩, G4, now4, last4, h4, hl4, t4⟩ := hL; have H4 := Lib.hid h4; have B4 := Lib.hid (B3.out.trans (t4.below B3.out.size (fun j hj => by rcases hj with hj | hj <;> omega))); clear h4 t4 d0 d1 d2 d3 d4 d5 d6)
            | (go_at_call 21; refine (hiStates_any H4.out.h (by have := H4.out.inv.small; omega) H4.out.inv.hup).mono ?_; rintro e w5 ⟨A5, c5, rfl, own5, b5⟩; have O5 := Lib.hid own5; have B5 := Lib.hid b5; clear own5 b5)
            | (go_at_call 23; refine (hiPath_any (H4.out.h.fresh B5.out) H4.out.inv (by have := H4.out.hl; omega)).mono ?_; rintro e w6 ⟨A6, c6, rfl, own6, b6⟩; have O6 := Lib.hid own6; have B6 := Lib.hid b6; clear own6 b6))
          have HN := Lib.hid (nums_of H4.out.inv)
          have H6 := Lib.hid ((H4.out.fresh B5.out).fresh B6.out)
          have B7 := Lib.hid ((B4.out.trans (B5.out.mono B4.out.size)).trans (B6.out.mono (Nat.le_trans B4.out.size B5.out.size)))
          obtain ⟨g5, rfl, hl5⟩ := ints_grow O5.out HN.out.one
          obtain ⟨g6, rfl, hl6⟩ := ints_grow O6.out HN.out.way
          have L5 := Lib.hid (hl5.step B6.out)
          have L6 := Lib.hid hl6
          have hG : G4.length = (G4.map StP.n).length := by simp
          clear O5 O6 hl5 hl6 B4 B5 B6 H4 HD HT HX H3 T3 TS B3 BW
          rw [hG]
          clear hG
          generalize hl4 : G4.map StP.n = l4 at *
          generalize hq4 : pathS G4 now4 = q4 at *
          clear hl4 hq4
          obtain ⟨hn1, hn2⟩ := hr
          have hw1 : IntKind.i64.wrap (n + 1) = n + 1 := IntWalk.i64_in _ (by omega)
          have hmost := HN.out.most
          have hfew := HN.out.few
          have hl80 : l4.length ≤ 80 := by omega
          have h1 : decide ((l4.length : Int) < 1) = false := decide_eq_false (by have := HN.out.one; omega)
          have h2 : decide (n + 1 < (l4.length : Int)) = false := decide_eq_false (by have := HN.out.most; omega)
          have h3 : decide ((q4.length : Int) < 1) = false := decide_eq_false (by have := HN.out.way; omega)
          obtain ⟨x0, hx0⟩ : ∃ x0, q4[0]? = some x0 := ⟨_, List.getElem?_eq_getElem HN.out.way⟩
          have e0 := (List.getElem?_eq_some_iff.1 hx0)
          have e1 := (List.getElem?_eq_some_iff.1 (HN.out.first ▸ hx0))
          obtain ⟨m4, hm4⟩ : ∃ m4, q4.length = m4 + 1 := ⟨q4.length - 1, by have := HN.out.way; omega⟩
          have e2 := HN.out.last
          rw [hm4, Nat.add_sub_cancel] at e2
          have e2 := (List.getElem?_eq_some_iff.1 e2)
          have s0 := L6.out.now 0 HN.out.way
          have s1 := L5.out.now 0 HN.out.one
          have s2 := L6.out.now m4 (by omega)
          rw [e0.2] at s0
          rw [e1.2] at s1
          rw [e2.2] at s2
          have hM := Lib.hid hm4
          have hm80 : m4 ≤ 80 := by omega
          have hw2 : IntKind.i64.wrap (m4 : Int) = m4 := IntWalk.i64_in _ (by omega)
          have i0 : (0 : Int) < (q4.length : Int) := by omega
          have i1 : (0 : Int) < (l4.length : Int) := by have := HN.out.one; omega
          have i1' : 0 < l4.length := HN.out.one
          clear e0 e1 e2 hx0
          clear hmost hfew
          rw [hm4]
          clear i0 h3
          have h3 : decide ((m4 : Int) + 1 < 1) = false := decide_eq_false (by omega)
          have i0 : (0 : Int) < (m4 : Int) + 1 := by omega
          have i2 : (m4 : Int) < (m4 : Int) + 1 := by omega
          clear hm4
          have h4 : (x0 != x0) = false := by simp
          have h5 : (now4 != now4) = false := by simp
          go_quiet (first | (go_at_call 19; refine Calls.quiet_of_same (hiNow_any (H6.out.h.drewN _))))
          have H7 := Lib.hid (H6.out.fresh (below_drewN (Below.refl _ w6) nq))
          have K5 := Lib.hid (L5.out.drewN nq)
          have K6 := Lib.hid (L6.out.drewN nq)
          have B8 := Lib.hid (below_drewN B7.out nq)
          clear s0 s1 s2 h1 h2 h3 h4 h5 hw1 hw2 i0 i1 i1' i2 L5 L6 B7 H6
          generalize w6.drewN nq = wx at *
          have z8 := B8.out.size
          go_wp2_with fail
          go_loopw [9] (fun i wr => ∃ j : Nat, j + 1 ≤ l4.length ∧ i = .int .i64 ((j : Int) + 1) ∧ Below wx.heap.size wx wr) (fun i _ => l4.length - (intOf i).toNat)
          case atStart => exact ⟨0, HN.out.one, rfl, Below.refl _ _⟩
          case round =>
            obtain ⟨j, hj, rfl, hbj⟩ := hrel
            by_cases hjl : j + 1 < l4.length
            · have hjl' : (j : Int) + 1 < (l4.length : Int) := by omega
              have hjl2 : (j : Int) < (l4.length : Int) := by omega
              have c0 := K5.out _ hbj j (by omega)
              have c1 := K5.out _ hbj (j + 1) hjl
              have hlt2 : l4[j] < l4[j + 1] := List.pairwise_iff_getElem.1 HN.out.up j (j + 1) (by omega) hjl (by omega)
              generalize l4[j] = y0 at *
              generalize l4[j + 1] = y1 at *
              have hge : decide (y1 ≤ y0) = false := decide_eq_false (by omega)
              have hw : IntKind.i64.wrap (j : Int) = j := IntWalk.i64_in _ (by omega)
              go_upto_region 17 with fail
              go_quiet (fail)
              go_wp2
              go_roundw
              case rel => exact ⟨j + 1, by omega, by go_num, below_drewN hbj _⟩
              case measure => simp [intOf]; omega
            · have hjl' : ¬ (j : Int) + 1 < (l4.length : Int) := by omega
              go_wp2_with fail
              go_loopw [10, 105] (fun at1 i wr => ∃ s j : Nat, at1 = .int .i64 s ∧ i = .int .i64 j ∧ j ≤ m4 + 1 ∧ s ≤ l4.length ∧ (∀ (r : Nat) (x : Int), l4[r]? = some x → q4[j]? = some x → s ≤ r) ∧ Below wx.heap.size wx wr) (fun _ i _ => m4 + 1 - (intOf i).toNat)
              case atStart => exact ⟨0, 0, rfl, rfl, by omega, by omega, fun _ _ _ _ => Nat.zero_le _, hbj⟩
              case round =>
                obtain ⟨s, i, rfl, rfl, hi, hs, hall, hbi⟩ := hrel
                by_cases hil : i < m4 + 1
                · have hil' : (i : Int) < (m4 : Int) + 1 := by omega
                  have hiq : i < q4.length := by have := hM.out; omega
                  obtain ⟨x, hqx⟩ : ∃ x, q4[i] = x := ⟨_, rfl⟩
                  have hq : q4[i]? = some x := by rw [List.getElem?_eq_getElem hiq, hqx]
                  have cq := K6.out _ hbi i hiq
                  rw [hqx] at cq
                  have hmem := HN.out.sub _ (List.getElem_mem hiq)
                  rw [hqx] at hmem
                  have hprev : ∀ i' (e : i' + 1 = i) (hi' : i' < q4.length), q4[i'] < x := fun i' e hi' => by
                    rw [← hqx]
                    exact List.pairwise_iff_getElem.1 HN.out.rise i' i hi' hiq (by omega)
                  have hnext : ∀ y, q4[i + 1]? = some y → x < y := fun y hy => by
                    obtain ⟨h1, h2⟩ := List.getElem?_eq_some_iff.1 hy
                    rw [← h2, ← hqx]
                    exact List.pairwise_iff_getElem.1 HN.out.rise i (i + 1) hiq h1 (by omega)
                  obtain ⟨j0, hj0, hx0⟩ := List.getElem_of_mem hmem
                  have hsj := hall j0 x (by rw [List.getElem?_eq_getElem hj0, hx0]) hq
                  have HNX := Lib.hid hnext
                  have HPV := Lib.hid hprev
                  have HX0 := Lib.hid hx0
                  clear hnext hprev hall hmem hqx hq hx0
                  go_wp2_with fail
                  go_loopw [10] (fun at1 wr => ∃ s : Nat, at1 = .int .i64 s ∧ s ≤ j0 ∧ Below wx.heap.size wx wr) (fun at1 _ => j0 - (intOf at1).toNat)
                  case atStart => exact ⟨s, rfl, hsj, hbi⟩
                  case round =>
                    obtain ⟨s1, rfl, hs1, hbs⟩ := hrel
                    have hsl' : (s1 : Int) < (l4.length : Int) := by omega
                    have cl := K5.out _ hbs s1 (by omega)
                    by_cases hsj : s1 < j0
                    · have hlt2 : l4[s1]'(by omega) < l4[j0] := List.pairwise_iff_getElem.1 HN.out.up s1 j0 (by omega) hj0 hsj
                      rw [HX0.out] at hlt2
                      generalize l4[s1]'(by omega) = y0 at *
                      have hne : (y0 != x) = true := by rw [bne_iff_ne]; omega
                      go_wp2_with fail
                      go_roundw
                      case rel => exact ⟨s1 + 1, by go_num, by omega, hbs⟩
                      case measure => simp [intOf]; omega
                    · obtain rfl : s1 = j0 := by omega
                      rw [HX0.out] at cl
                      have hne : (x != x) = false := by simp
                      have hat : ((s1 : Int) == (l4.length : Int)) = false := by rw [beq_eq_false_iff_ne]; omega
                      have hall2 : Hid (∀ (r : Nat) (y : Int), l4[r]? = some y → q4[i + 1]? = some y → s1 ≤ r) := by
                        show ∀ (r : Nat) (y : Int), _
                        intro r y h1 h2
                        obtain ⟨h3, h4⟩ := List.getElem?_eq_some_iff.1 h1
                        have h5 := HNX.out y h2
                        rcases Nat.lt_or_ge r s1 with h6 | h6
                        · have h7 : l4[r] < l4[s1] := List.pairwise_iff_getElem.1 HN.out.up r s1 h3 hj0 h6
                          rw [HX0.out, h4] at h7; omega
                        · exact h6
                      rcases i with _ | i
                      · go_wp2_with fail
                        exact ⟨⟨s1, 1, rfl, rfl, by omega, by omega, hall2.out, hbs⟩, by simp [intOf]⟩
                      · have hiq2 : i < q4.length := by have := hM.out; omega
                        have hp1 := HPV.out i rfl hiq2
                        have cp := K6.out _ hbs i hiq2
                        generalize q4[i] = y0 at *
                        have hge : decide (x ≤ y0) = false := decide_eq_false (by omega)
                        have hw : IntKind.i64.wrap (i : Int) = i := IntWalk.i64_in _ (by omega)
                        go_wp2_with fail
                        exact ⟨⟨s1, i + 1 + 1, rfl, by push_cast; rfl, by omega, by omega, hall2.out, hbs⟩, by simp [intOf]; omega⟩
                · have hil' : ¬ (i : Int) < (m4 : Int) + 1 := by omega
                  go_wp2_with fail
                  go_roundw
                  case rel => exact ⟨k + 1, by omega, by go_num, G4, now4, last4, H7.out.fresh hbi, by omega, by omega, B8.out.trans (hbi.mono z8)⟩
                  case measure => simp [intOf]; omega
        · have HF := Lib.hid hf
          clear hf
          go_wp2_with (go_at_call 11; refine (lawEFits_any A1 B1 c1 d a S X l m _ TS.out.1.hS TS.out.1.hl TS.out.2.hS TS.out.2.hl).mono ?_; rw [decide_eq_false HF.out]; rintro e w3 ⟨rfl, b3⟩)
          go_roundw
          case rel => exact ⟨k + 1, by omega, by go_num, G, now, last, HX.out.fresh b3, by omega, by omega, BW.out.trans (b3.mono zr)⟩
          case measure => simp [intOf]; omega
      · by_cases hlt : k < acs.length
        · obtain rfl : k = 80 := by omega
          go_wp2_with fail
          go_ret
          exact ⟨rfl, BW.out⟩
        · go_wp2_with fail
          go_ret
          exact ⟨rfl, BW.out⟩
  · by_cases h1 : n < 1
    · go_enter Try.func4, Try.ntmps4
      go_wp2_with (first
        | (go_at_call 8; refine (aliveH_any _).mono ?_; rintro e w1 ⟨rfl, b1⟩)
        | (go_at_call 9; refine (hiNew_nil n hr w1).mono ?_; rintro e w2 ⟨rfl, rfl⟩))
      go_ret
      exact ⟨rfl, b1⟩
    · have h2 : 64 < n := by omega
      go_enter Try.func4, Try.ntmps4
      go_wp2_with (first
        | (go_at_call 8; refine (aliveH_any _).mono ?_; rintro e w1 ⟨rfl, b1⟩)
        | (go_at_call 9; refine (hiNew_nil n hr w1).mono ?_; rintro e w2 ⟨rfl, rfl⟩))
      go_ret
      exact ⟨rfl, b1⟩
end Go.Proofs.Ytfeaffabminpfaa

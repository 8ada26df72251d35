/-
  What is done to a copy is not seen in the history, nor the other way: layer 8.
-/
import Derived.Test.YtfeaffabminpfaaHiForks
import Derived.Test.YtfeaffabminpfaaHiAlive
import Derived.Test.YtfeaffabminpfaaHiDoes
import Derived.Deep.RegionHeld3
import Derived.Deep.CutRange
import Derived.Deep.CutBlock
namespace Go.Proofs.Ytfeaffabminpfaa
open Go.RowKit

theorem boxC (w : World) (c8 : Array Value) (T : TypeId) : Grow (w.alloc (.cells c8 T)) (fun w' => Blk w' w.heap.size T c8 ∧ Below w.heap.size w w') :=
  (blk_box w).and (grow_bel ((Below.refl _ w).alloc (Nat.le_refl _) _))

set_option maxRecDepth 100000 in
set_option maxHeartbeats 40000000 in
theorem histCopies_walk (w : World) (A : Option Addr) (c : Nat) (acs : List ActE) (_hlen : acs.length ≤ maxLen) (hA : ∀ a ∈ acs, ActEOk w a) (row : Row w w.heap.size A (flatE acs)) :
    Calls Try.prog 6 #[.slice A acs.length c] w fun e w' => e = .returned (.bool true) ∧ Below w.heap.size w w' := by
  have HA := Lib.hid hA
  clear hA
  have hlen := _hlen
  unfold maxLen at hlen
  go_enter Try.func6, Try.ntmps6
  go_wp2_with (first
    | (go_at_call 8; refine (aliveH_any _).mono ?_; rintro e w1 ⟨rfl, b1⟩)
    | (go_at_call 9; refine (hiNew_any 9 (by decide) w1).mono ?_; rintro e w2 ⟨p, b, rfl, hp, hb, h2, b2⟩))
  have z1 := b1.size
  have B0 := Lib.hid b1
  have F2 : Hid (ForkH w1 w2 p b [firstS] 0 0 [] (.slice none 0 0) 0 [] (.slice none 0 0) 0 []) := ⟨hx_new (by decide) h2, fun s hs => by rw [List.mem_singleton.1 hs]; exact ⟨.inl rfl, .inl rfl⟩, fun r hr => by simp at hr, fun r hr => by simp at hr, World.ownsRow_nil _ _ _ _, World.ownsRow_nil _ _ _ _, ⟨hp, hb⟩, b2⟩
  clear b1 b2 h2 hp hb
  go_loopw [3, 4, 5, 6] (fun s v4 v5 i wr => ∃ (k p b : Nat) (G : List StP) (now last : Int) (L : List OldH) (x4 x5 : Value), k ≤ acs.length ∧ k ≤ 80 ∧ i = .int .i64 k ∧ s = .pointer (some ⟨p, 0, none⟩) ∧ x4 = v4 ∧ x5 = v5 ∧ last ≤ (k : Int) ∧ L.length ≤ 8 ∧ ForkH w1 wr p b G now last L x4 L.length (ptrsH L) x5 L.length (rowsH L)) (fun _ _ _ i _ => acs.length - (intOf i).toNat)
  case atStart => exact ⟨0, p, b, _, _, _, [], _, _, Nat.zero_le _, by omega, rfl, rfl, rfl, rfl, by simp, by simp, F2.out⟩
  case round =>
    clear F2
    obtain ⟨k, p, b, G, now, last, L, v4, v5, hk, hk80, rfl, rfl, rfl, rfl, hlk, hL8, hf⟩ := hrel
    have FK := Lib.hid hf
    have zr : w1.heap.size ≤ wr.heap.size := hf.bel.size
    have BR : Hid (Below w.heap.size w wr) := B0.out.trans (hf.bel.mono z1)
    obtain ⟨A4, c4, rfl⟩ := own_form hf.own4
    obtain ⟨A5, c5, rfl⟩ := own_form hf.own5
    have LT : Hid (∀ k, (Value.slice A4 L.length c4).ownBlock = some k ∨ (Value.slice A5 L.length c5).ownBlock = some k → k < wr.heap.size) := fun k hk => hk.elim (fun hk => (hf.own4.lt k hk).2) (fun hk => (hf.own5.lt k hk).2)
    clear hf
    by_cases hin : k < acs.length ∧ k < 80
    · obtain ⟨hlt, h80⟩ := hin
      have hlt' : (k : Int) < (acs.length : Int) := by omega
      have h80' : (k : Int) < 80 := by omega
      obtain ⟨ad, rfl, hd⟩ := actE_grow row hlt
      have HT := Lib.hid (HA.out acs[k] (List.getElem_mem hlt))
      generalize acs[k] = r at *
      obtain ⟨kind, ⟨a, S, A1, l, c1, X, Bx, m, d⟩, fo⟩ := r
      have hkind := HT.out.hk
      dsimp only at hkind
      obtain ⟨d0, d1, d2, d3, d4, d5, d6⟩ := hd _ BR.out
      dsimp only at d0 d1 d2 d3 d4 d5 d6
      clear hd
      have HL4 : Hid ((S.length ≤ maxLen ∧ l.length ≤ maxLen) ∧ X.length ≤ maxLen ∧ m.length ≤ maxLen) := ⟨⟨HT.out.old.hS, HT.out.old.hl⟩, HT.out.new.hS, HT.out.new.hl⟩
      go_upto_region 12 with fail
      have K3 := Lib.hid ((boxC wr #[.int .u8 kind, .int .i64 a, .string ⟨S.toArray⟩, .slice A1 l.length c1, .string ⟨X.toArray⟩, .slice Bx m.length d, .bool fo] 36).and (FK.out.grow.alloc _))
      clear d0 d1 d2 d3 d4 d5 d6 FK
      generalize wr.alloc (.cells #[.int .u8 kind, .int .i64 a, .string ⟨S.toArray⟩, .slice A1 l.length c1, .string ⟨X.toArray⟩, .slice Bx m.length d, .bool fo] 36) = w3 at *
      obtain ⟨s0, s1, s2, s3, s4, s5, s6⟩ := st_cells K3.out.now.1.1
      by_cases hfit : (S.length ≤ 5000 ∧ l.length ≤ 5000) ∧ (X.length ≤ 5000 ∧ m.length ≤ 5000)
      · have HF := Lib.hid hfit
        clear hfit
        go_upto_region 13 with (go_at_call 11; refine (lawEFits_any A1 Bx c1 d a S X l m _ HL4.out.1.1 HL4.out.1.2 HL4.out.2.1 HL4.out.2.2).mono ?_; rw [decide_eq_true HF.out]; rintro e w4 ⟨rfl, b4⟩)
        have K4 := Lib.hid (K3.out.step b4)
        clear s0 s1 s2 s3 s4 s5 s6 b4 K3
        have F4 := Lib.hid K4.out.now.2
        have G4 := Lib.hid K4.out.now.1.1
        clear K4
        obtain ⟨s0, s1, s2, s3, s4, s5, s6⟩ := st_cells G4.out
        by_cases h8 : L.length < 8
        · have hd8 : (L.length : Int) < 8 := by omega
          cases fo with
          | true =>
            go_upto_region 14 with fail
            have z14 : w1.heap.size ≤ w4.heap.size := F4.out.bel.size
            go_upto_region 15 with (at_builtin; refine wpList_pushT rfl _ _ _ rfl w1.heap.size 24 _ 1 8 elt_ptrH 24 _ _ _ rfl F4.out.own4 [.pointer (some ⟨p, 0, none⟩)] _ rfl rfl rfl (by intro u hu; simp at hu; subst hu; rfl) (by unfold maxLen; omega) (by omega) z14 ?_; intro v6 w6 own6 ch6 at6)
            have F6 := Lib.hid (F4.out.app4 own6 ch6 at6)
            have G6 := Lib.hid (G4.out.tch ch6 (fun h => by have := LT.out _ (.inl h); omega))
            clear F4 G4 own6 ch6 at6 s0 s1 s2 s3 s4 s5 s6
            have z6 : w1.heap.size ≤ w6.heap.size := F6.out.bel.size
            obtain ⟨ln, hln⟩ : ∃ ln, G.map StP.n = ln := ⟨_, rfl⟩
            have HLN := Lib.hid hln
            have hlen1 : ln.length ≤ 1000 := by have := F6.out.hx.inv.small; rw [← hln, List.length_map]; omega
            have ST := Lib.hid (hiStates_any F6.out.hx.h (by have := F6.out.hx.inv.small; omega) F6.out.hx.inv.hup)
            rw [hln] at ST
            clear hln
            go_upto_region 16 with (first
              | (go_at_call 21; refine ST.out.mono ?_; rintro e w7 ⟨A7, c7, rfl, own7, b7⟩; have O7 := Lib.hid (own_base own7 z6); have Q7 := Lib.hid (fun k hk => (own7.lt k hk).1); have B7 := Lib.hid b7; have N7 := Lib.hid (F6.out.fresh b7).hx.h; have z7 : w1.heap.size ≤ w7.heap.size := Nat.le_trans z6 b7.size; clear b7 own7)
              | (go_at_call 19; refine (hiNow_any N7.out).mono ?_; rintro e w' ⟨rfl, rfl⟩)
              | (at_builtin; refine wpList_pushT rfl _ _ _ rfl w1.heap.size 3 _ 1 8 elt_int 3 _ _ _ rfl O7.out [.int .i64 now] _ rfl rfl rfl (by intro u hu; simp at hu; subst hu; rfl) (by unfold maxLen; omega) (by omega) z7 ?_; intro v8 w8 own8 ch8 at8; obtain ⟨A8, c8, rfl⟩ := own_form own8; have B8 := Lib.hid (B7.out.trans (ch8.below B7.out.size (fun k hk => Q7.out k hk))); have O8 := Lib.hid own8; have F8 := Lib.hid (F6.out.fresh B8.out); have z8 : w1.heap.size ≤ w8.heap.size := F8.out.bel.size; clear own8 ch8 at8)
              | (at_builtin; refine wpList_pushT rfl _ _ _ rfl w1.heap.size 50 _ 1 24 elt_intsH 50 _ _ _ rfl F8.out.own5 [.slice A8 (ln.length + 1) c8] _ rfl rfl rfl (by intro u hu; simp at hu; subst hu; rfl) (by unfold maxLen; omega) (by omega) z8 ?_; intro v9 w9 own9 ch9 at9))
            have F9 := Lib.hid (F8.out.app5 own9 ch9 at9)
            have O9 := Lib.hid (own_two O8.out ch9 F8.out.own5 (by decide))
            have G9 := Lib.hid ((G6.out.below B8.out G6.out.lt).tch ch9 (fun h => by have := LT.out _ (.inr h); omega))
            clear own9 ch9 at9 F8 O8 B8 N7 B7 Q7 O7 ST F6 G6
            go_upto_region 17 with (go_at_call 29; refine (hiCopy_any F9.out.hx.h).mono ?_; rintro e w10 ⟨p', b', rfl, hp', hb', hs', b10⟩)
            have F10 := Lib.hid (F9.out.push (A := A8) (c := c8) (by rw [HLN.out]; show w9.ownsRow _ _ _ _ _ ((ln ++ [now]).map intz); rw [List.map_append]; exact O9.out) hp' hb' hs' b10)
            have G10 := Lib.hid (G9.out.below b10 G9.out.lt)
            clear hp' hb' hs' b10 F9 O9 G9
            obtain ⟨R, hR⟩ : ∃ R : OldH, R = ⟨p, b, G, now, last, A8, c8⟩ := ⟨_, rfl⟩
            have hLL : (L ++ [R]).length = L.length + 1 := by simp
            have hPP : ptrsH (L ++ [R]) = ptrsH L ++ [.pointer (some ⟨p, 0, none⟩)] := by rw [ptrsH_push, hR]
            have hTT : rowsH (L ++ [R]) = rowsH L ++ [.slice A8 (ln.length + 1) c8] := by rw [rowsH_push, hR]; show rowsH L ++ [.slice A8 ((G.map StP.n).length + 1) c8] = _; rw [HLN.out]
            rw [← hPP, ← hTT, ← hLL, ← hR] at F10
            have HLL := Lib.hid hLL
            clear hR hLL hPP hTT HLN hlen1
            have BW := Lib.hid (B0.out.trans (F10.out.bel.mono z1))
            have TX := Lib.hid (And.intro (show Txu w10 A1 S l from (Txt.below HT.out.old BW.out).more BW.out.size) (show Txu w10 Bx X m from (Txt.below HT.out.new BW.out).more BW.out.size))
            obtain ⟨s0, s1, s2, s3, s4, s5, s6⟩ := st_cells G10.out
            go_wp2_with (go_at_call 25; refine (doesA_any F10.out.hx (by omega) kind hkind true TX.out.1 TX.out.2 HF.out.1.2 HF.out.2.2).mono ?_; intro e w11 hL; have HL := Lib.hid (F10.out.does hL); obtain ⟨⟨v, rfl⟩, _⟩ := hL)
            go_roundw
            case rel => obtain ⟨G', now', last', hl', hF'⟩ := HL.out; exact ⟨k + 1, p', b', G', now', last', L ++ [R], _, _, by omega, by omega, by go_num, rfl, rfl, rfl, by push_cast; omega, by rw [HLL.out]; omega, hF'⟩
            case measure => simp [intOf]; omega
          | false =>
            have BW := Lib.hid (B0.out.trans (F4.out.bel.mono z1))
            have TX := Lib.hid (And.intro (show Txu w4 A1 S l from (Txt.below HT.out.old BW.out).more BW.out.size) (show Txu w4 Bx X m from (Txt.below HT.out.new BW.out).more BW.out.size))
            go_wp2_with (go_at_call 25; refine (doesA_any F4.out.hx (by omega) kind hkind false TX.out.1 TX.out.2 HF.out.1.2 HF.out.2.2).mono ?_; intro e w11 hL; have HL := Lib.hid (F4.out.does hL); obtain ⟨⟨v, rfl⟩, _⟩ := hL)
            go_roundw
            case rel => obtain ⟨G', now', last', hl', hF'⟩ := HL.out; exact ⟨k + 1, p, b, G', now', last', L, _, _, by omega, by omega, by go_num, rfl, rfl, rfl, by push_cast; omega, hL8, hF'⟩
            case measure => simp [intOf]; omega
        · have hd8 : ¬ (L.length : Int) < 8 := by omega
          cases fo with
          | true =>
            have BW := Lib.hid (B0.out.trans (F4.out.bel.mono z1))
            have TX := Lib.hid (And.intro (show Txu w4 A1 S l from (Txt.below HT.out.old BW.out).more BW.out.size) (show Txu w4 Bx X m from (Txt.below HT.out.new BW.out).more BW.out.size))
            go_wp2_with (go_at_call 25; refine (doesA_any F4.out.hx (by omega) kind hkind true TX.out.1 TX.out.2 HF.out.1.2 HF.out.2.2).mono ?_; intro e w11 hL; have HL := Lib.hid (F4.out.does hL); obtain ⟨⟨v, rfl⟩, _⟩ := hL)
            go_roundw
            case rel => obtain ⟨G', now', last', hl', hF'⟩ := HL.out; exact ⟨k + 1, p, b, G', now', last', L, _, _, by omega, by omega, by go_num, rfl, rfl, rfl, by push_cast; omega, hL8, hF'⟩
            case measure => simp [intOf]; omega
          | false =>
            have BW := Lib.hid (B0.out.trans (F4.out.bel.mono z1))
            have TX := Lib.hid (And.intro (show Txu w4 A1 S l from (Txt.below HT.out.old BW.out).more BW.out.size) (show Txu w4 Bx X m from (Txt.below HT.out.new BW.out).more BW.out.size))
            go_wp2_with (go_at_call 25; refine (doesA_any F4.out.hx (by omega) kind hkind false TX.out.1 TX.out.2 HF.out.1.2 HF.out.2.2).mono ?_; intro e w11 hL; have HL := Lib.hid (F4.out.does hL); obtain ⟨⟨v, rfl⟩, _⟩ := hL)
            go_roundw
            case rel => obtain ⟨G', now', last', hl', hF'⟩ := HL.out; exact ⟨k + 1, p, b, G', now', last', L, _, _, by omega, by omega, by go_num, rfl, rfl, rfl, by push_cast; omega, hL8, hF'⟩
            case measure => simp [intOf]; omega
      · go_wp2_with (go_at_call 11; refine (lawEFits_any A1 Bx c1 d a S X l m _ HL4.out.1.1 HL4.out.1.2 HL4.out.2.1 HL4.out.2.2).mono ?_; rw [decide_eq_false hfit]; rintro e w4 ⟨rfl, b4⟩)
        go_roundw
        case rel => exact ⟨k + 1, p, b, G, now, last, L, _, _, by omega, by omega, by go_num, rfl, rfl, rfl, by push_cast; omega, hL8, (K3.out.step b4).now.2⟩
        case measure => simp [intOf]; omega
    · have hout : (¬ (k : Int) < (acs.length : Int)) ∨ ((k : Int) < (acs.length : Int) ∧ ¬ (k : Int) < 80) := by omega
      clear HA row LT
      generalize wr = wE at *
      rcases hout with hx | ⟨hx, hy⟩
      all_goals
        go_wp2_with fail
        go_loopw [61] (fun i wx => ∃ j : Nat, j ≤ L.length ∧ i = .int .i64 j ∧ Below wE.heap.size wE wx) (fun i _ => L.length - (intOf i).toNat)
        case atStart => exact ⟨0, Nat.zero_le _, rfl, Below.refl _ _⟩
        case round =>
          obtain ⟨j, hj, rfl, hb0⟩ := hrel
          by_cases hjl : j < L.length
          · have hjl' : (j : Int) < (L.length : Int) := by omega
            have hj0 : (0 : Int) ≤ (j : Int) := by omega
            obtain ⟨g4, g5, r, rfl, rfl, hg⟩ := FK.out.at_ hjl
            obtain ⟨ln, hln⟩ : ∃ ln, r.G.map StP.n = ln := ⟨_, rfl⟩
            have hx0 : Grow wE (fun w' => Hx w' r.p r.b r.G 9 r.now r.last) := fun w' hb => (hg w' hb).2.1
            have SG := Lib.hid (states_in hx0 hln)
            have NW := Lib.hid (now_in hx0)
            have S0 := Lib.hid (fun w' hb => (hg w' hb).1)
            have RW := Lib.hid (fun w' hb => (hg w' hb).2.2)
            have hlen1 : ln.length ≤ 1000 := by have := (hx0.now).inv.small; rw [← hln, List.length_map]; omega
            have hN1 : ln.length + 1 ≤ 1000 := by have := (hx0.now).inv.small; rw [← hln, List.length_map]; omega
            have hrl : r.len = ln.length + 1 := by unfold OldH.len; rw [hln]
            have hnm : r.nums = ln ++ [r.now] := by unfold OldH.nums; rw [hln]
            have hnl : (ln ++ [r.now]).length = ln.length + 1 := by simp
            have HNL := Lib.hid hnl
            rw [hrl] at S0
            rw [hnm] at RW
            clear hln hx0 hrl hnm hg hnl
            go_upto_region 23 with fail
            go_cut [81] (fun s wx => s = .bool false ∧ Below wE.heap.size wE wx)
            case first =>
              go_region_held3 (fun w' => w'.cell? ⟨g4, j, none⟩ = some (.pointer (some ⟨r.p, 0, none⟩)) ∧ w'.cell? ⟨g5, j, none⟩ = some (.slice r.A (ln.length + 1) r.c))
                (first
                  | with_reducible exact S0.out _ hbx
                  | with_reducible exact S0.out _ (belowE_dr hb0)
                  | with_reducible exact S0.out _ ((belowE_dr hb0).alloc (belowE_dr hb0).size _)
                  | with_reducible exact S0.out _ (hbx.alloc hbx.size _)
                  | with_reducible exact S0.out _ hb0)
                (first
                  | (go_at_call 19; refine (NW.out _ ?_).mono ?_; (first | with_reducible assumption | with_reducible exact belowE_dr hb0); rintro e w' ⟨rfl, rfl⟩)
                  | (go_at_call 21; refine (SG.out _ ?_).mono ?_; (first | with_reducible assumption | with_reducible exact belowE_dr hb0 | with_reducible exact (belowE_dr hb0).alloc (belowE_dr hb0).size _); rintro e w5 ⟨A5, c5, rfl, o5, hbx, hby⟩)
                  | (obtain ⟨A9, c9, w9, hrun, o9, hbx⟩ := append_num (now := r.now) (g := w5.heap.size) hlen1 (o5.out.alloc (.cells #[.int .i64 r.now] 3)) (by simp) (by simp) (hbx.alloc hbx.size _); refine step_append_eq rfl (.tmp 68) (.tmp 74) 50 50 rfl _ _ (by simp [Act.eval]) (by simp [Act.eval]) hrun ?_)
                  | (go_at_call 20; refine (ints_sameN (wc := wE) (p := ln ++ [r.now]) (N := ln.length + 1) HNL.out hN1 (by with_reducible assumption) (Row.of_own o9) (RW.out _ (by with_reducible assumption))).mono ?_; rintro e wz ⟨rfl, hbx⟩))
              all_goals
                go_wp2_with fail
                go_meet
                exact ⟨rfl, hbx⟩
            case rest =>
              obtain ⟨rfl, hb2⟩ := hcut
              go_wp2_with fail
              go_roundw
              case rel => exact ⟨j + 1, by omega, by go_num, hb2⟩
              case measure => simp [intOf]; omega
          · obtain rfl : j = L.length := by omega
            go_wp2_with fail
            go_ret
            exact ⟨rfl, BR.out.trans (hb0.mono BR.out.size)⟩
end Go.Proofs.Ytfeaffabminpfaa

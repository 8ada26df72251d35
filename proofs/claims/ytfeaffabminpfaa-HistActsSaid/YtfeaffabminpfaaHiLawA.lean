/-
  A history answers every call as the document says: layer 8.
-/
import Derived.Test.YtfeaffabminpfaaHiAlive
import Derived.Test.YtfeaffabminpfaaHiBoth
import Derived.Deep.CutRange
import Derived.Deep.CutBlock
namespace Go.Proofs.Ytfeaffabminpfaa
open Go.RowKit

theorem box8 (w : World) (c8 : Array Value) (T : TypeId) : Grow (w.alloc (.cells c8 T)) (fun w' => Blk w' w.heap.size T c8 ∧ Below w.heap.size w w') :=
  (blk_box w).and (grow_bel ((Below.refl _ w).alloc (Nat.le_refl _) _))

set_option maxRecDepth 100000 in
set_option maxHeartbeats 40000000 in
theorem histActs_walk (w : World) (n : Int) (_hn : -9223372036854775808 ≤ n ∧ n ≤ 9223372036854775807) (A : Option Addr) (c : Nat) (acs : List ActE) (_hlen : acs.length ≤ maxLen) (hA : ∀ a ∈ acs, ActEOk w a) (row : Row w w.heap.size A (flatE acs)) :
    Calls Try.prog 3 #[.int .i64 n, .slice A acs.length c] w fun e w' => e = .returned (.bool true) ∧ Below w.heap.size w w' := by
  have HA := Lib.hid hA
  clear hA
  have hlen := _hlen
  unfold maxLen at hlen
  by_cases hr : 1 ≤ n ∧ n ≤ 64
  · obtain ⟨hn1, hn2⟩ := hr
    go_enter Try.func3, Try.ntmps3
    go_wp2_with (first
      | (go_at_call 8; refine (aliveH_any _).mono ?_; rintro e w1 ⟨rfl, b1⟩)
      | (go_at_call 9; refine (hiNew_any n ⟨hn1, hn2⟩ w1).mono ?_; rintro e w2 ⟨p, b, rfl, hp, hb, h2, b2⟩)
      | (go_at_call 10; refine (refHNew_any n w2).mono ?_; rintro e w3 ⟨A3, c3, rfl, own3, b3⟩))
    have z1 := b1.size
    have z2 := b2.size
    have z3 := b3.size
    have HB : Blk (w3.alloc (.cells #[.slice A3 [firstS].length c3, .int .i64 0, .int .i64 1, .int .i64 n] 28)) w3.heap.size 28 #[.slice A3 [firstS].length c3, .int .i64 0, .int .i64 1, .int .i64 n] := Blk.new _ _ _
    have bz : Below w3.heap.size w3 (w3.alloc (.cells #[.slice A3 [firstS].length c3, .int .i64 0, .int .i64 1, .int .i64 n] 28)) := (Below.refl _ w3).alloc (Nat.le_refl _) _
    have hpl := h2.blk.lt
    have hbl := h2.map.lt
    have HK : Hid (ActsK w (w3.alloc (.cells #[.slice A3 [firstS].length c3, .int .i64 0, .int .i64 1, .int .i64 n] 28)) p b w3.heap.size [firstS] [firstS] n 0 0 0 A3 c3) := by
      refine Lib.hid ⟨((hx_new ⟨hn1, hn2⟩ h2).fresh b3).fresh bz, HB, RefH.fresh ⟨RowO.of_own own3 (fun k h1 h2 hp => by rcases hp with (e | e) | e <;> omega), fun s hs => ?_⟩ bz, ⟨SameK.rfl' _, trivial⟩, ((b1.trans (b2.mono z1)).trans (b3.mono (by omega))).trans (bz.mono (by omega)), ⟨by omega, by omega, by omega⟩, by omega, by omega⟩
      rw [List.mem_singleton.1 hs]
      exact ⟨tx_zero _ _, tx_zero _ _⟩
    have hg : w3.heap.size < (w3.alloc (.cells #[.slice A3 [firstS].length c3, .int .i64 0, .int .i64 1, .int .i64 n] 28)).heap.size := by simp
    clear own3 h2 HB bz b1 b2 b3
    generalize w3.heap.size = g at *
    generalize w3.alloc (.cells #[.slice A3 [firstS].length c3, .int .i64 0, .int .i64 1, .int .i64 n] 28) = wz at *
    go_loopw [7] (fun i wr => ∃ k : Nat, k ≤ acs.length ∧ i = .int .i64 k ∧ k ≤ 80 ∧ ∃ (G L : List StP) (now last : Int) (A' : Option Addr) (c' : Nat), last ≤ (k : Int) ∧ ActsK w wr p b g G L n now now last A' c') (fun i _ => acs.length - (intOf i).toNat)
    case atStart => exact ⟨0, Nat.zero_le _, rfl, by omega, _, _, 0, 0, _, _, by simp, HK.out⟩
    case round =>
      obtain ⟨k, hk, rfl, hk80, G, L, now, last, A', c', hlk, hK⟩ := hrel
      clear HK hg
      have HK := Lib.hid hK
      clear hK
      have zr := HK.out.bel.size
      by_cases hin : k < acs.length ∧ k < 80
      · obtain ⟨hlt, h80⟩ := hin
        have hlt' : (k : Int) < (acs.length : Int) := by omega
        have h80' : (k : Int) < 80 := by omega
        obtain ⟨ad, rfl, hd⟩ := actE_grow row hlt
        have HD := Lib.hid hd
        have HT := Lib.hid (HA.out acs[k] (List.getElem_mem hlt))
        clear hd
        generalize acs[k] = r at *
        obtain ⟨kind, ⟨a, S, A1, l, c1, X, B1, m, d⟩, fo⟩ := r
        have hkind := HT.out.hk
        have TS := Lib.hid (And.intro ((Txt.below HT.out.old HK.out.bel).more zr) ((Txt.below HT.out.new HK.out.bel).more zr))
        have hTX : TxO wr (PA p b g) A1 S l ∧ TxO wr (PA p b g) B1 X m := by
          have hq : ∀ k, k < w.heap.size → ¬ PA p b g k := fun k hk hp => by have := HK.out.low; rcases hp with (e | e) | e <;> omega
          exact ⟨TxO.of_txt (Txt.below HT.out.old HK.out.bel) zr hq, TxO.of_txt (Txt.below HT.out.new HK.out.bel) zr hq⟩
        have TX := Lib.hid hTX
        dsimp only at hkind
        clear hTX
        obtain ⟨d0, d1, d2, d3, d4, d5, d6⟩ := HD.out _ HK.out.bel
        dsimp only at d0 d1 d2 d3 d4 d5 d6
        go_upto_region 13 with fail
        have K := Lib.hid ((box8 wr #[.int .u8 kind, .int .i64 a, .string ⟨S.toArray⟩, .slice A1 l.length c1, .string ⟨X.toArray⟩, .slice B1 m.length d, .bool fo] 36).and ((HK.out.grow.and (fun w' (hb : Below wr.heap.size wr w') => And.intro (TX.out.1.fresh hb) (TX.out.2.fresh hb))).step ((Below.refl _ wr).alloc (Nat.le_refl _) _)))
        clear d0 d1 d2 d3 d4 d5 d6
        generalize wr.alloc (.cells #[.int .u8 kind, .int .i64 a, .string ⟨S.toArray⟩, .slice A1 l.length c1, .string ⟨X.toArray⟩, .slice B1 m.length d, .bool fo] 36) = wa at *
        obtain ⟨s0, s1, s2, s3, s4, s5, s6⟩ := st_cells K.out.now.1.1
        by_cases hf : (S.length ≤ 5000 ∧ l.length ≤ 5000) ∧ (X.length ≤ 5000 ∧ m.length ≤ 5000)
        · have HF := Lib.hid hf
          clear hf
          go_upto_region 15 with (go_at_call 11; refine (lawEFits_any A1 B1 c1 d a S X l m _ TS.out.1.hS TS.out.1.hl TS.out.2.hS TS.out.2.hl).mono ?_; rw [decide_eq_true HF.out]; rintro e w3 ⟨rfl, b3⟩; have K3 := Lib.hid (K.out.step b3); clear s0 s1 s2 s3 s4 s5 s6 b3; obtain ⟨s0, s1, s2, s3, s4, s5, s6⟩ := st_cells K3.out.now.1.1)
          go_upto_block 2 with fail
          go_cut [9] from 42 to 155 (fun s9 wx => s9 = .bool true ∧ ∃ (G L : List StP) (now last : Int) (A' : Option Addr) (c' : Nat), last ≤ (k : Int) + 1 ∧ ActsK w wx p b g G L n now now last A' c')
          case first =>
            by_cases k2 : (kind % 4 == 2) = true
            · obtain ⟨er, a5, S5, l5, X5, m5, now5, hL, hR⟩ := both_undo K3.out.now.2.1
              have HL := Lib.hid (hL _ K3.out.now.2.1)
              have HR := Lib.hid hR
              clear hL hR
              go_upto_region 22 with (go_at_call 12; refine HL.out.mono ?_; rintro e w4 ⟨A5, c5, B5, d5, rfl, t5, x5, h5⟩)
              have K5 := Lib.hid ((box8 w4 #[.int .i64 a5, .string ⟨S5.toArray⟩, .slice A5 l5.length c5, .string ⟨X5.toArray⟩, .slice B5 m5.length d5] 34).and (((grow_txu t5).and ((grow_txu x5).and h5.grow)).step ((Below.refl _ w4).alloc (Nat.le_refl _) _)))
              clear t5 x5 h5 s0 s1 s2 s3 s4 s5 s6
              generalize w4.alloc (.cells #[.int .i64 a5, .string ⟨S5.toArray⟩, .slice A5 l5.length c5, .string ⟨X5.toArray⟩, .slice B5 m5.length d5] 34) = wx at *
              obtain ⟨y0, y1, y2, y3⟩ := hi_cells K5.out.now.2.2.2.blk
              go_upto_region 23 with (go_at_call 13; refine (HR.out _ K5.out.now.2.2.2).mono ?_; rintro e w6 ⟨A6, c6, B6, d6, rfl, t6, x6, b6⟩)
              have K7 := Lib.hid ((boxesE2 w6 28 34 #[.slice A' L.length c', .int .i64 now5, .int .i64 (last + 1), .int .i64 n] #[.int .i64 a5, .string ⟨S5.toArray⟩, .slice A6 l5.length c6, .string ⟨X5.toArray⟩, .slice B6 m5.length d6]).and (((K5.out.step b6).and ((grow_txu t6).and (grow_txu x6))).step (((Below.refl _ w6).alloc (Nat.le_refl _) _).alloc (by simp) _)))
              clear t6 x6 b6 y0 y1 y2 y3
              generalize (w6.alloc (.cells #[.slice A' L.length c', .int .i64 now5, .int .i64 (last + 1), .int .i64 n] 28)).alloc (.cells #[.int .i64 a5, .string ⟨S5.toArray⟩, .slice A6 l5.length c6, .string ⟨X5.toArray⟩, .slice B6 m5.length d6] 34) = wy at *
              obtain ⟨u0, u1, u2, u3, u4⟩ := ed_cells K7.out.now.1.2.1
              obtain ⟨v0, v1, v2, v3, v4⟩ := ed_cells K7.out.now.2.1.1.1
              go_upto_region 24 with (go_at_call 14; refine (refESame_any A5 B5 A6 B6 c5 d5 c6 d6 a5 S5 l5 X5 m5 _ K7.out.now.2.1.2.1 K7.out.now.2.1.2.2.1 K7.out.now.2.2.1 K7.out.now.2.2.2).mono ?_; rintro e w8 ⟨rfl, b8⟩)
              have K9 := Lib.hid (K7.out.step b8)
              clear u0 u1 u2 u3 u4 v0 v1 v2 v3 v4 b8
              obtain ⟨y0, y1, y2, y3⟩ := hi_cells K9.out.now.1.1
              obtain ⟨⟨z0, z1, z2, z3⟩, z4, z5, z6, z7⟩ := hi_var K9.out.now.2.1.2.2.2.blk
              go_wp2_with fail
              go_meet
              exact ⟨rfl, G, L, now5, last, A', c', by omega, K9.out.now.2.1.2.2.2.store K9.out.now.2.1.2.2.2.hx K9.out.now.2.1.2.2.2.ref K9.out.now.2.1.2.2.2.al⟩
            · replace k2 : (kind % 4 == 2) = false := by simpa using k2
              by_cases k3 : (kind % 4 == 3) = true
              · obtain ⟨er, a5, S5, l5, X5, m5, now5, hL, hR⟩ := both_redo K3.out.now.2.1
                have HL := Lib.hid (hL _ K3.out.now.2.1)
                have HR := Lib.hid hR
                clear hL hR
                go_upto_region 27 with (go_at_call 15; refine HL.out.mono ?_; rintro e w4 ⟨A5, c5, B5, d5, rfl, t5, x5, h5⟩)
                have K5 := Lib.hid ((box8 w4 #[.int .i64 a5, .string ⟨S5.toArray⟩, .slice A5 l5.length c5, .string ⟨X5.toArray⟩, .slice B5 m5.length d5] 34).and (((grow_txu t5).and ((grow_txu x5).and h5.grow)).step ((Below.refl _ w4).alloc (Nat.le_refl _) _)))
                clear t5 x5 h5 s0 s1 s2 s3 s4 s5 s6
                generalize w4.alloc (.cells #[.int .i64 a5, .string ⟨S5.toArray⟩, .slice A5 l5.length c5, .string ⟨X5.toArray⟩, .slice B5 m5.length d5] 34) = wx at *
                obtain ⟨y0, y1, y2, y3⟩ := hi_cells K5.out.now.2.2.2.blk
                go_upto_region 28 with (go_at_call 16; refine (HR.out _ K5.out.now.2.2.2).mono ?_; rintro e w6 ⟨A6, c6, B6, d6, rfl, t6, x6, b6⟩)
                have K7 := Lib.hid ((boxesE2 w6 28 34 #[.slice A' L.length c', .int .i64 now5, .int .i64 (last + 1), .int .i64 n] #[.int .i64 a5, .string ⟨S5.toArray⟩, .slice A6 l5.length c6, .string ⟨X5.toArray⟩, .slice B6 m5.length d6]).and (((K5.out.step b6).and ((grow_txu t6).and (grow_txu x6))).step (((Below.refl _ w6).alloc (Nat.le_refl _) _).alloc (by simp) _)))
                clear t6 x6 b6 y0 y1 y2 y3
                generalize (w6.alloc (.cells #[.slice A' L.length c', .int .i64 now5, .int .i64 (last + 1), .int .i64 n] 28)).alloc (.cells #[.int .i64 a5, .string ⟨S5.toArray⟩, .slice A6 l5.length c6, .string ⟨X5.toArray⟩, .slice B6 m5.length d6] 34) = wy at *
                obtain ⟨u0, u1, u2, u3, u4⟩ := ed_cells K7.out.now.1.2.1
                obtain ⟨v0, v1, v2, v3, v4⟩ := ed_cells K7.out.now.2.1.1.1
                go_upto_region 29 with (go_at_call 14; refine (refESame_any A5 B5 A6 B6 c5 d5 c6 d6 a5 S5 l5 X5 m5 _ K7.out.now.2.1.2.1 K7.out.now.2.1.2.2.1 K7.out.now.2.2.1 K7.out.now.2.2.2).mono ?_; rintro e w8 ⟨rfl, b8⟩)
                have K9 := Lib.hid (K7.out.step b8)
                clear u0 u1 u2 u3 u4 v0 v1 v2 v3 v4 b8
                obtain ⟨y0, y1, y2, y3⟩ := hi_cells K9.out.now.1.1
                obtain ⟨⟨z0, z1, z2, z3⟩, z4, z5, z6, z7⟩ := hi_var K9.out.now.2.1.2.2.2.blk
                go_wp2_with fail
                go_meet
                exact ⟨rfl, G, L, now5, last, A', c', by omega, K9.out.now.2.1.2.2.2.store K9.out.now.2.1.2.2.2.hx K9.out.now.2.1.2.2.2.ref K9.out.now.2.1.2.2.2.al⟩
              · replace k3 : (kind % 4 == 3) = false := by simpa using k3
                by_cases hg : goodE a S l X m = true
                · go_upto_region 17 with (go_at_call 17; refine (K3.out.now.2.1.hx.add (by omega) K3.out.now.2.2.1.txu K3.out.now.2.2.2.txu hg HF.out.1.2 HF.out.2.2).mono ?_; rintro e w4 ⟨A5, c5, B5, d5, G5, rfl, h5, t5, a5, _⟩)
                  have hpw := K3.out.now.2.1.hx.h.blk.lt
                  have hbw := K3.out.now.2.1.hx.h.map.lt
                  have hpr := HK.out.hx.h.blk.lt
                  have hbr := HK.out.hx.h.map.lt
                  have hgr := HK.out.blk.lt
                  have B4 := Lib.hid (K3.out.now.1.1.tch t5 (fun hp => by rcases hp with e | e <;> omega))
                  have G4 := Lib.hid (K3.out.now.2.1.blk.tch t5 (fun hp => by rcases hp with e | e; exact K3.out.now.2.1.ne.1 e; exact K3.out.now.2.1.ne.2 e))
                  have t6 : Tch (PA p b g) w3 w4 := t5.more fun _ e => Or.inl e
                  have R4 := Lib.hid (K3.out.now.2.1.ref.tch t6)
                  have X4 := Lib.hid (And.intro (K3.out.now.2.2.1.tch t6) (K3.out.now.2.2.2.tch t6))
                  have L4 := Lib.hid (K3.out.now.2.1.bel.trans (t5.below K3.out.now.2.1.bel.size (fun j hj => by have := K3.out.now.2.1.low; rcases hj with e | e <;> omega)))
                  have H4 := Lib.hid h5
                  have A4 := Lib.hid a5
                  have OLD := Lib.hid (And.intro K3.out.now.2.1.al (And.intro K3.out.now.2.1.hx.inv (And.intro K3.out.now.2.1.low K3.out.now.2.1.ne)))
                  have hP : ∀ j, PA p b g j → j < w4.heap.size := fun j hj => by have := t5.size; have := K3.out.now.2.1.blk.lt; rcases hj with (e | e) | e <;> omega
                  clear s0 s1 s2 s3 s4 s5 s6 h5 a5 t5 t6 K3 K
                  obtain ⟨s0, s1, s2, s3, s4, s5, s6⟩ := st_cells B4.out
                  obtain ⟨y0, y1, y2, y3⟩ := hi_cells G4.out
                  go_upto_region 18 with (go_at_call 18; refine (refAdd_any R4.out OLD.out.1 OLD.out.2.1 hn2 (by omega) X4.out.1 X4.out.2 hg hP).mono ?_; rintro e w6 ⟨A6, c6, L6, rfl, r6, a6, b6⟩)
                  have K8 := Lib.hid ((box8 w6 #[.slice A6 L6.length c6, .int .i64 (last + 1), .int .i64 (last + 1 + 1), .int .i64 n] 28).and ((((grow_blk G4.out).and (fun (w' : World) (hb : Below w4.heap.size w4 w') => And.intro (H4.out.fresh hb) (L4.out.trans (hb.mono L4.out.size)))).step b6).and (fun (w' : World) (hb : Below w6.heap.size w6 w') => r6.fresh hb) |>.step ((Below.refl _ w6).alloc (Nat.le_refl _) _)))
                  have AL := Lib.hid (alike_add (alike_app OLD.out.1 (alike_one (⟨rfl, rfl, fun _ => ⟨rfl, rfl, rfl, rfl, rfl⟩⟩ : SameK ⟨last + 1, now, ⟨a, S, A5, l, c5, X, B5, m, d5⟩⟩ ⟨last + 1, now, ⟨a, S, A1, l, c1, X, B1, m, d⟩⟩))) A4.out a6)
                  clear r6 a6 b6 s0 s1 s2 s3 s4 s5 s6 y0 y1 y2 y3 B4 R4 X4
                  generalize w6.alloc (.cells #[.slice A6 L6.length c6, .int .i64 (last + 1), .int .i64 (last + 1 + 1), .int .i64 n] 28) = wy at *
                  obtain ⟨y0, y1, y2, y3⟩ := hi_cells K8.out.now.1.1
                  obtain ⟨⟨z0, z1, z2, z3⟩, z4, z5, z6, z7⟩ := hi_var K8.out.now.2.1.1
                  go_wp2_with fail
                  go_meet
                  exact ⟨rfl, G5, L6, last + 1, last + 1, A6, c6, by omega, acts_store K8.out.now.2.1.1 K8.out.now.2.1.2.2 OLD.out.2.2.1 OLD.out.2.2.2 K8.out.now.2.1.2.1 K8.out.now.2.2 AL.out⟩
                · replace hg : goodE a S l X m = false := by simpa using hg
                  go_upto_region 17 with (go_at_call 17; refine (hiAdd_bad K3.out.now.2.1.hx.h K3.out.now.2.2.1.txu K3.out.now.2.2.2.txu hg).mono ?_; rintro e w4 ⟨rfl, b4⟩)
                  have K4 := Lib.hid (K3.out.step b4)
                  clear s0 s1 s2 s3 s4 s5 s6 b4 K3 K
                  obtain ⟨s0, s1, s2, s3, s4, s5, s6⟩ := st_cells K4.out.now.1.1
                  obtain ⟨y0, y1, y2, y3⟩ := hi_cells K4.out.now.2.1.blk
                  go_upto_region 18 with (go_at_call 18; refine (refHAdd_bad A' c' L now (last + 1) n _ a S A1 l c1 X B1 m d K4.out.now.2.2.1.txu K4.out.now.2.2.2.txu hg).mono ?_; rintro e w6 ⟨rfl, b6⟩)
                  have K8 := Lib.hid ((box8 w6 #[.slice A' L.length c', .int .i64 now, .int .i64 (last + 1), .int .i64 n] 28).and ((K4.out.step b6).step ((Below.refl _ w6).alloc (Nat.le_refl _) _)))
                  clear b6 s0 s1 s2 s3 s4 s5 s6 y0 y1 y2 y3 K4
                  generalize w6.alloc (.cells #[.slice A' L.length c', .int .i64 now, .int .i64 (last + 1), .int .i64 n] 28) = wy at *
                  obtain ⟨y0, y1, y2, y3⟩ := hi_cells K8.out.now.1.1
                  obtain ⟨⟨z0, z1, z2, z3⟩, z4, z5, z6, z7⟩ := hi_var K8.out.now.2.2.1.blk
                  go_wp2_with fail
                  go_meet
                  exact ⟨rfl, G, L, now, last, A', c', by omega, K8.out.now.2.2.1.store K8.out.now.2.2.1.hx K8.out.now.2.2.1.ref K8.out.now.2.2.1.al⟩
          case rest =>
            obtain ⟨rfl, G2, L2, now2, last2, A2, c2, hl2, hK2⟩ := hcut
            have KC := Lib.hid hK2
            have SG := Lib.hid hK2.states
            have SR := Lib.hid hK2.refStates
            have PG := Lib.hid hK2.path
            have PR := Lib.hid hK2.refPath
            have NW := Lib.hid hK2.nowAt
            have S0 := Lib.hid (fun w' (hb : Below wc.heap.size wc w') => hi_cells (hK2.fresh hb).blk)
            have hsl : (G2.map StP.n).length ≤ 1000 := by have := hK2.hx.inv.small; rw [List.length_map]; omega
            have hpl : (pathS G2 now2).length ≤ 1000 := by have := hK2.hx.inv.small; have := hK2.hx.inv.path_len; omega
            have hnn : (now2 != now2) = false := by simp
            have hb0 : Below wc.heap.size wc wc := Below.refl _ _
            clear hK2
            generalize G2.map StP.n = l2 at *
            generalize pathS G2 now2 = q2 at *
            go_upto_region 30 with fail
            go_region_held3 (fun w' => w'.cell? ⟨g, 0, none⟩ = some (.slice A2 L2.length c2) ∧ w'.cell? ⟨g, 1, none⟩ = some (.int .i64 now2) ∧ w'.cell? ⟨g, 2, none⟩ = some (.int .i64 (last2 + 1)) ∧ w'.cell? ⟨g, 3, none⟩ = some (.int .i64 n))
              (first
                | with_reducible exact S0.out _ hbx
                | with_reducible exact S0.out _ (belowE_dr hb0)
                | with_reducible exact S0.out _ hb0)
              (first
                | (go_at_call 19; refine (NW.out _ ?_).mono ?_; (first | with_reducible assumption | with_reducible exact belowE_dr hb0); rintro e w' ⟨rfl, rfl⟩)
                | (go_at_call 21; refine (SG.out _ ?_).mono ?_; (first | with_reducible assumption | with_reducible exact belowE_dr hb0); rintro e w5 ⟨A5, c5, rfl, o5, hbx, hby⟩)
                | (go_at_call 22; refine (SR.out _ ?_).mono ?_; (first | with_reducible assumption | with_reducible exact belowE_dr hb0); rintro e w6 ⟨A6, c6, rfl, o6, hbx, hby⟩; have o5' := Lib.hid (o5.out.step hby))
                | (go_at_call 23; refine (PG.out _ ?_).mono ?_; (first | with_reducible assumption | with_reducible exact belowE_dr hb0); rintro e w8 ⟨A8, c8, rfl, o8, hbx, hby⟩)
                | (go_at_call 24; refine (PR.out _ ?_).mono ?_; (first | with_reducible assumption | with_reducible exact belowE_dr hb0); rintro e w9 ⟨A9, c9, rfl, o9, hbx, hby⟩; have o8' := Lib.hid (o8.out.step hby))
                | (go_at_call_of 20 l2; refine (ints_same (wc := wc) hsl (by with_reducible assumption) o5'.out.now o6.out.now).mono ?_; rintro e w7 ⟨rfl, hbx, hby⟩)
                | (go_at_call_of 20 q2; refine (ints_same (wc := wc) hpl (by with_reducible assumption) o8'.out.now o9.out.now).mono ?_; rintro e wz2 ⟨rfl, hbx, hby⟩))
            have KF := Lib.hid (KC.out.fresh hbx)
            go_wp2
            go_roundw
            case rel => exact ⟨k + 1, by omega, by go_num, by omega, G2, L2, now2, last2, A2, c2, by push_cast; omega, KF.out⟩
            case measure => simp [intOf]; omega
        · have HF := Lib.hid hf
          clear hf
          go_wp2_with (go_at_call 11; refine (lawEFits_any A1 B1 c1 d a S X l m _ TS.out.1.hS TS.out.1.hl TS.out.2.hS TS.out.2.hl).mono ?_; rw [decide_eq_false HF.out]; rintro e w3 ⟨rfl, b3⟩)
          go_roundw
          case rel => exact ⟨k + 1, by omega, by go_num, by omega, G, L, now, last, A', c', by omega, (K.out.step b3).now.2.1⟩
          case measure => simp [intOf]; omega
      · by_cases hlt : k < acs.length
        · obtain rfl : k = 80 := by omega
          go_wp2_with fail
          go_ret
          exact ⟨rfl, HK.out.bel⟩
        · go_wp2_with fail
          go_ret
          exact ⟨rfl, HK.out.bel⟩
  · by_cases h1 : n < 1
    · go_enter Try.func3, Try.ntmps3
      go_wp2_with (first
        | (go_at_call 8; refine (aliveH_any _).mono ?_; rintro e w1 ⟨rfl, b1⟩)
        | (go_at_call 9; refine (hiNew_nil n hr w1).mono ?_; rintro e w2 ⟨rfl, rfl⟩))
      go_ret
      exact ⟨rfl, b1⟩
    · have h2 : 64 < n := by omega
      go_enter Try.func3, Try.ntmps3
      go_wp2_with (first
        | (go_at_call 8; refine (aliveH_any _).mono ?_; rintro e w1 ⟨rfl, b1⟩)
        | (go_at_call 9; refine (hiNew_nil n hr w1).mono ?_; rintro e w2 ⟨rfl, rfl⟩))
      go_ret
      exact ⟨rfl, b1⟩
end Go.Proofs.Ytfeaffabminpfaa

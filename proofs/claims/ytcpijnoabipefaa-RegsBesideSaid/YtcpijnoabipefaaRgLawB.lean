/-
  A call that names a letter leaves all registers but that one and the last one as they were: layer 9.
-/
import Derived.Test.YtcpijnoabipefaaRgNames
import Derived.Test.YtcpijnoabipefaaRgSame
import Derived.BigQuiet
import Derived.Deep.RegionHeld3
namespace Go.Proofs.Ytcpijnoabipefaa
open Go.RowKit

/-- a call as it lies in a list, for good -/
structure ActAtG (w : World) (x : Addr) (r : ActG) : Prop where
  d0 : w.cell? x = some (.int .i32 r.name)
  d1 : w.cell? ⟨x.block, x.off + 1, none⟩ = some (.string ⟨r.S.toArray⟩)
  d2 : w.cell? ⟨x.block, x.off + 2, none⟩ = some (.slice r.A r.l.length r.c)
  d3 : w.cell? ⟨x.block, x.off + 3, none⟩ = some (.bool r.lines)
  d4 : w.cell? ⟨x.block, x.off + 4, none⟩ = some (.bool r.cut)
  d5 : w.cell? ⟨x.block, x.off + 5, none⟩ = some (.bool r.wide)
theorem actG_grow {w : World} {A : Option Addr} {acs : List ActG} (h : Row w w.heap.size A (flatA acs)) {k : Nat} (hk : k < acs.length) : ∃ ad, A = some ad ∧ Grow w (fun w' => ActAtG w' (ad.add (k * 6)) acs[k]) := by
  obtain ⟨ad, e, _⟩ := actG_at h hk
  refine ⟨ad, e, fun w' hb => ?_⟩
  obtain ⟨ad', e', _, h0, h1, h2, h3, h4, h5⟩ := actG_at (h.below hb) hk
  rw [e] at e'
  injection e' with e'
  subst e'
  exact ⟨h0, h1, h2, h3, h4, h5⟩

set_option maxRecDepth 100000 in
set_option maxHeartbeats 80000000 in
theorem regsBeside_walk (w : World) (A : Option Addr) (c : Nat) (acs : List ActG) (_hlen : acs.length ≤ maxLen) (hA : ∀ a ∈ acs, ActGOk w a) (row : Row w w.heap.size A (flatA acs)) (r : ActG) (ha : ActGOk w r) :
    Calls Try.prog 4 #[.slice A acs.length c, .agg r.cells.toArray] w fun e w' => e = .returned (.bool true) ∧ Below w.heap.size w w' := by
  obtain ⟨n, S, AL, l, cl, b, cut, wide⟩ := r
  have hn := ha.hn
  have TL := Lib.hid ha.txt
  have HA := Lib.hid hA
  clear ha hA
  dsimp only at hn TL
  have K := Lib.hid (boxN w #[.int .i32 n, .string ⟨S.toArray⟩, .slice AL l.length cl, .bool b, .bool cut, .bool wide] 40)
  show Calls Try.prog 4 #[.slice A acs.length c, .agg #[.int .i32 n, .string ⟨S.toArray⟩, .slice AL l.length cl, .bool b, .bool cut, .bool wide]] w _
  go_enter Try.func4, Try.ntmps4
  go_upto_region 1 with fail
  generalize w.alloc (.cells #[.int .i32 n, .string ⟨S.toArray⟩, .slice AL l.length cl, .bool b, .bool cut, .bool wide] 40) = wb at *
  have hwb : w.heap.size < wb.heap.size := K.out.now.1.lt
  go_wp2_with (first
    | (go_at_call 7; refine (aliveG_any _).mono ?_; rintro e w1 ⟨rfl, b1⟩)
    | (go_at_call 8; refine (rgNew_any w1).mono ?_; rintro e w2 ⟨rfl, h2, b2, z2⟩))
  have H2 := Lib.hid h2
  have B2 := Lib.hid (b1.trans (b2.mono b1.size))
  have hg : wb.heap.size ≤ w1.heap.size := b1.size
  clear h2 b1 b2 z2
  generalize w1.heap.size = g at *
  go_loopw [6] (fun i wr => ∃ k : Nat, k ≤ acs.length ∧ k ≤ 40 ∧ i = .int .i64 k ∧ ∃ R, Rgs wr (fun k => k = g) g R ∧ Below wb.heap.size wb wr) (fun i _ => acs.length - (intOf i).toNat)
  case atStart => exact ⟨0, Nat.zero_le _, by omega, rfl, newR, H2.out, B2.out⟩
  case round =>
    obtain ⟨k, hk, hk40, rfl, R, hr, hb⟩ := hrel
    have KR := Lib.hid (hr.grow.and (fun w' (hw : Below wr.heap.size wr w') => hb.trans (hw.mono hb.size) : Grow wr (fun w' => Below wb.heap.size wb w')))
    clear H2 B2 hr hb
    by_cases hin : k < acs.length ∧ k < 40
    · obtain ⟨hlt, h40⟩ := hin
      have hlt' : (k : Int) < (acs.length : Int) := by omega
      have h40' : (k : Int) < 40 := by omega
      obtain ⟨ad, rfl, hd⟩ := actG_grow row hlt
      have HD := Lib.hid hd
      have HX := Lib.hid (HA.out acs[k] (List.getElem_mem hlt))
      clear hd
      obtain ⟨t, ht⟩ : ∃ t, t = acs[k] := ⟨_, rfl⟩
      rw [← ht] at HD HX
      clear ht
      obtain ⟨n1, S1, A1, l1, c1, b1, cut1, wide1⟩ := t
      have hn1 := HX.out.hn
      have HT := Lib.hid HX.out.txt
      dsimp only at hn1 HT HD
      clear HX
      have HB : Hid (∀ wz, Below wb.heap.size wb wz → Below w.heap.size w wz) := fun wz hz => K.out.now.2.trans (hz.mono (Nat.le_of_lt hwb))
      have hTX : Hid (∀ wz, Below wb.heap.size wb wz → Txu wz A1 S1 l1) := fun wz hz => (Txt.below HT.out (HB.out _ hz)).more (HB.out _ hz).size
      have hS := HT.out.hS
      have hl := HT.out.hl
      obtain ⟨d0, d1, d2, d3, d4, d5⟩ := HD.out _ (HB.out _ KR.out.now.2)
      dsimp only at d0 d1 d2 d3 d4 d5
      by_cases hf : S1.length ≤ 5000 ∧ l1.length ≤ 5000
      · go_wp2_with (first
          | (go_at_call 9; refine (lawFits_any S1 hS l1 hl A1 c1 _).mono ?_; rw [decide_eq_true hf]; rintro e w3 ⟨rfl, b3⟩; replace KR := Lib.hid (KR.out.step b3); clear d0 d1 d2 d3 d4 d5 b3; obtain ⟨d0, d1, d2, d3, d4, d5⟩ := HD.out _ (HB.out _ KR.out.now.2); dsimp only at d0 d1 d2 d3 d4 d5)
          | (go_at_call 14; refine (rgDoes_any KR.out.now.1 n1 hn1 A1 c1 S1 l1 b1 cut1 wide1 (hTX.out _ KR.out.now.2)).mono ?_; rintro e w4 ⟨rfl, hr, ht⟩; have HR := Lib.hid hr; have BR := Lib.hid (KR.out.now.2.trans (ht.below KR.out.now.2.size (fun k hk => by omega))); clear hr ht))
        go_roundw
        case rel => exact ⟨k + 1, by omega, by omega, by go_num, _, HR.out, BR.out⟩
        case measure => simp [intOf]; omega
      · go_wp2_with (go_at_call 9; refine (lawFits_any S1 hS l1 hl A1 c1 _).mono ?_; rw [decide_eq_false hf]; rintro e w3 ⟨rfl, b3⟩; replace KR := Lib.hid (KR.out.step b3); clear b3)
        go_roundw
        case rel => exact ⟨k + 1, by omega, by omega, by go_num, R, KR.out.now.1, KR.out.now.2⟩
        case measure => simp [intOf]; omega
    · have hout : (¬ (k : Int) < (acs.length : Int)) ∨ ((k : Int) < (acs.length : Int) ∧ ¬ (k : Int) < 40) := by omega
      obtain ⟨V, hV⟩ : ∃ V, doesR R n S l b cut wide = V := ⟨_, rfl⟩
      have HD := Lib.hid (doesR_doing R n S l b cut wide)
      obtain ⟨R2, kk⟩ := V
      rw [hV] at HD
      have HV := Lib.hid hV
      clear hV
      have hTL : Hid (∀ wz, Below wb.heap.size wb wz → Txu wz AL S l) := fun wz hz => (Txt.below TL.out (K.out.now.2.trans (hz.mono (Nat.le_of_lt hwb)))).more (K.out.now.2.trans (hz.mono (Nat.le_of_lt hwb))).size
      have hS := TL.out.hS
      have hl := TL.out.hl
      have hR38 := Lib.hid KR.out.now.1.ok
      rcases hout with hx | ⟨hx, hy⟩
      all_goals
        go_upto_region 12 with (go_at_call 15; refine (rgCopy_any KR.out.now.1).mono ?_; rintro e w3 ⟨g2, rfl, hg2, h3, c3, b3⟩; have KL := Lib.hid (h3.grow.and (c3.grow.and (fun w' (hw : Below w3.heap.size w3 w') => (KR.out.step b3).now.2.trans (hw.mono (KR.out.step b3).now.2.size) : Grow w3 (fun w' => Below wb.heap.size wb w')))); have hg2' := KR.out.now.1.tch; clear h3 c3 b3)
        have hne : g ≠ g2 := by omega
        obtain ⟨d0, d1, d2, d3, d4, d5⟩ := six_cells (K.out _ KL.out.now.2.2).1
        by_cases hf : S.length ≤ 5000 ∧ l.length ≤ 5000
        · go_upto_region 15 with (first
            | (go_at_call 9; refine (lawFits_any S hS l hl AL cl _).mono ?_; rw [decide_eq_true hf]; rintro e w4 ⟨rfl, b4⟩; replace KL := Lib.hid (KL.out.step b4); clear d0 d1 d2 d3 d4 d5 b4; obtain ⟨d0, d1, d2, d3, d4, d5⟩ := six_cells (K.out _ KL.out.now.2.2).1)
            | (go_at_call 14; refine (rgDoes_any KL.out.now.1 n hn AL cl S l b cut wide (hTL.out _ KL.out.now.2.2)).mono ?_; rw [HV.out]; rintro e w5 ⟨rfl, hr, ht⟩; have K5 := Lib.hid (hr.grow.and ((KL.out.now.2.1.far ht (Or.inl rfl) hne).grow.and (fun w' (hw : Below w5.heap.size w5 w') => (KL.out.now.2.2.trans (ht.below KL.out.now.2.2.size (fun k hk => by omega))).trans (hw.mono (Nat.le_trans KL.out.now.2.2.size ht.size)) : Grow w5 (fun w' => Below wb.heap.size wb w')))); clear hr ht d0 d1 d2 d3 d4 d5))
          clear KL
          obtain ⟨d0, d1, d2, d3, d4, d5⟩ := six_cells (K.out _ K5.out.now.2.2).1
          obtain ⟨m, hm⟩ : ∃ m, lowN n = m := ⟨_, rfl⟩
          rcases (show (65 ≤ n ∧ n ≤ 90 ∧ n + 32 = m) ∨ (¬ 65 ≤ n ∧ m = n) ∨ (65 ≤ n ∧ ¬ n ≤ 90 ∧ m = n) by
            unfold lowN at hm
            by_cases h : 65 ≤ n ∧ n ≤ 90
            · rw [if_pos h] at hm; exact .inl ⟨h.1, h.2, hm⟩
            · rw [if_neg h] at hm; omega) with ⟨q1, q2, q3⟩ | ⟨q1, q3⟩ | ⟨q1, q2, q3⟩
          · have hlow := hm
            have hw32 := IntWalk.i32_in (n + 32) (by omega)
            go_upto_region 18 with fail
            clear q3 hm hw32
            have HD2 := HD.out
            cases HD2 with
            | bad hk0 =>
              have e0 : (((kk : Nat) : Int) == 0) = false := by rw [beq_eq_false_iff_ne]; omega
              clear hk0
              go_wp2_with ((with_reducible refine at_range 9 _ ?_); refine wpList_rangeStr rfl 9 _ rfl Try.underlying9 namesL rfl ?_; intro w6 gi hgi hit6 bi)
              clear d0 d1 d2 d3 d4 d5
              try go_frame
              go_loopw [] (fun wr => ∃ q : Nat, q ≤ 38 ∧ Iter wr gi namesL q ∧ Below w5.heap.size w5 wr) (fun wr => 38 - wr.iterPos gi)
              case atStart => exact ⟨0, by omega, hit6, bi⟩
              case round =>
                clear hit6 bi
                obtain ⟨q, hq, hit, hb⟩ := hrel
                have HIP : Hid (wr.iterPos gi = q) := Lib.hid (show wr.iterPos gi = q by unfold World.iterPos; rw [hit])
                by_cases hlt : q < 38
                · have hd := names_dec q hlt
                  have hnb := name_bound q hlt
                  go_upto_region 23 with ((with_reducible refine at_next _ true ?_); refine wpList_nextStr rfl _ rfl gi rfl namesL q hit hlt ?_; intro w7 hit7 hg7; rw [hd] at hit7; rw [hd])
                  have b7 : Below w5.heap.size w5 w7 := hb.grown hg7 hb.size (fun k hk => by injection hk with hk; omega)
                  have K7 := Lib.hid ((K5.out.step b7).and ((show Grow w7 (fun w' => Below w5.heap.size w5 w') from fun w' h => b7.trans (h.mono b7.size)).and (show Grow w7 (fun w' => Iter w' gi namesL (q + 1)) from fun w' h => hit7.below h hit7.lt)))
                  clear hit hb hit7 hg7 b7 hd
                  obtain ⟨⟨rp, ek⟩, hgr⟩ : ∃ v, getR R (nameN q) = v := ⟨_, rfl⟩
                  have hrp := getR_txt hR38.out (nameN q)
                  rw [hgr] at hrp
                  dsimp only at hrp
                  have HGR := Lib.hid hgr
                  go_upto_region 24 with (go_at_call_of 12 g; refine (rgGet_any K7.out.now.1.1 (nameN q) hnb).mono ?_; rw [HGR.out]; rintro e w8 ⟨A8, c8, rfl, own8, b8⟩; replace K7 := Lib.hid (K7.out.step b8); have O8 := Lib.hid (grow_rowG (rowG_own own8)); clear own8 b8)
                  have K9 := Lib.hid ((boxN w8 #[.string ⟨rp.S.toArray⟩, .slice A8 rp.l.length c8, .bool rp.lines] 33).and ((O8.out.and K7.out).alloc _))
                  clear K7 O8
                  generalize w8.alloc (.cells #[.string ⟨rp.S.toArray⟩, .slice A8 rp.l.length c8, .bool rp.lines] 33) = w9 at *
                  go_upto_region 25 with (go_at_call_of 12 g2; refine (rgGet_any K9.out.now.2.2.1.2.1 (nameN q) hnb).mono ?_; rw [HGR.out]; rintro e w10 ⟨A10, c10, rfl, own10, b10⟩; replace K9 := Lib.hid (K9.out.step b10); have O10 := Lib.hid (grow_rowG (rowG_own own10)); clear own10 b10)
                  have KB := Lib.hid ((boxN w10 #[.string ⟨rp.S.toArray⟩, .slice A10 rp.l.length c10, .bool rp.lines] 33).and ((O10.out.and K9.out).alloc _))
                  clear K9 O10
                  generalize w10.alloc (.cells #[.string ⟨rp.S.toArray⟩, .slice A10 rp.l.length c10, .bool rp.lines] 33) = w11 at *
                  obtain ⟨y0, y1, y2⟩ := en_cells KB.out.now.1.1
                  obtain ⟨z0, z1, z2⟩ := en_cells KB.out.now.2.2.1.1
                  have hee : (((ek : Nat) : Int) != (ek : Nat)) = false := by simp
                  go_wp2_with (go_at_call 16; refine (refGSame_any A8 A10 c8 c10 rp.S rp.S rp.l rp.l rp.lines rp.lines _ ⟨hrp.1, hrp.2.1, hrp.2.2, KB.out.now.2.2.2.1.row⟩ ⟨hrp.1, hrp.2.1, hrp.2.2, KB.out.now.2.1.row⟩).mono ?_; rw [decide_eq_true ⟨rfl, rfl⟩, beq_self_eq_true, Bool.and_self]; rintro e w12 ⟨rfl, b12⟩; replace KB := Lib.hid (KB.out.step b12); clear b12)
                  have hip2 : w12.iterPos gi = q + 1 := by unfold World.iterPos; rw [KB.out.now.2.2.2.2.2.2]
                  rw [HIP.out, hip2]
                  exact ⟨⟨q + 1, by omega, KB.out.now.2.2.2.2.2.2, KB.out.now.2.2.2.2.2.1⟩, by omega⟩
                · go_wp2_with ((with_reducible refine at_next _ true ?_); refine wpList_nextEnd rfl _ rfl gi rfl namesL q hit hlt ?_)
                  go_ret
                  exact ⟨rfl, K.out.now.2.trans ((K5.out.step hb).now.2.2.mono (Nat.le_of_lt hwb))⟩
            | hole h95 => omega
            | letter hlet =>
              rename_i x
              obtain ⟨l1, l2, _⟩ := lowN_letter hlet
              rw [hlow] at l1 l2
              have e95 : (m != 95) = true := by rw [bne_iff_ne]; omega
              go_wp2_with ((with_reducible refine at_range 9 _ ?_); refine wpList_rangeStr rfl 9 _ rfl Try.underlying9 namesL rfl ?_; intro w6 gi hgi hit6 bi)
              clear d0 d1 d2 d3 d4 d5
              try go_frame
              go_loopw [] (fun wr => ∃ q : Nat, q ≤ 38 ∧ Iter wr gi namesL q ∧ Below w5.heap.size w5 wr) (fun wr => 38 - wr.iterPos gi)
              case atStart => exact ⟨0, by omega, hit6, bi⟩
              case round =>
                clear hit6 bi
                obtain ⟨q, hq, hit, hb⟩ := hrel
                have HIP : Hid (wr.iterPos gi = q) := Lib.hid (show wr.iterPos gi = q by unfold World.iterPos; rw [hit])
                by_cases hlt : q < 38
                · have hd := names_dec q hlt
                  have hnb := name_bound q hlt
                  go_upto_region 23 with ((with_reducible refine at_next _ true ?_); refine wpList_nextStr rfl _ rfl gi rfl namesL q hit hlt ?_; intro w7 hit7 hg7; rw [hd] at hit7; rw [hd])
                  have b7 : Below w5.heap.size w5 w7 := hb.grown hg7 hb.size (fun k hk => by injection hk with hk; omega)
                  have K7 := Lib.hid ((K5.out.step b7).and ((show Grow w7 (fun w' => Below w5.heap.size w5 w') from fun w' h => b7.trans (h.mono b7.size)).and (show Grow w7 (fun w' => Iter w' gi namesL (q + 1)) from fun w' h => hit7.below h hit7.lt)))
                  clear hit hb hit7 hg7 b7 hd
                  obtain ⟨⟨rp, ek⟩, hgr⟩ : ∃ v, getR R (nameN q) = v := ⟨_, rfl⟩
                  have hrp := getR_txt hR38.out (nameN q)
                  rw [hgr] at hrp
                  dsimp only at hrp
                  have HGR := Lib.hid hgr
                  have HLN := Lib.hid hlow
                  by_cases u1 : (nameN q : Int) = m
                  · have e1 : ((nameN q : Int) == m) = true := by rw [u1]; simp
                    obtain ⟨⟨rq, el⟩, hgs⟩ : ∃ v, getR (put2 R (plN n).toNat 37 x) (nameN q) = v := ⟨_, rfl⟩
                    have HGS := Lib.hid hgs
                    clear hgs u1 hgr
                    go_upto_region 24 with (go_at_call_of 12 g; refine (rgGet_any K7.out.now.1.1 (nameN q) hnb).mono ?_; rw [HGS.out]; rintro e w8 ⟨A8, c8, rfl, own8, b8⟩; replace K7 := Lib.hid (K7.out.step b8); have O8 := Lib.hid (grow_rowG (rowG_own own8)); clear own8 b8)
                    have K9 := Lib.hid ((boxN w8 #[.string ⟨rq.S.toArray⟩, .slice A8 rq.l.length c8, .bool rq.lines] 33).and ((O8.out.and K7.out).alloc _))
                    clear K7 O8
                    generalize w8.alloc (.cells #[.string ⟨rq.S.toArray⟩, .slice A8 rq.l.length c8, .bool rq.lines] 33) = w9 at *
                    go_upto_region 25 with (go_at_call_of 12 g2; refine (rgGet_any K9.out.now.2.2.1.2.1 (nameN q) hnb).mono ?_; rw [HGR.out]; rintro e w10 ⟨A10, c10, rfl, own10, b10⟩; replace K9 := Lib.hid (K9.out.step b10); have O10 := Lib.hid (grow_rowG (rowG_own own10)); clear own10 b10)
                    have KB := Lib.hid ((boxN w10 #[.string ⟨rp.S.toArray⟩, .slice A10 rp.l.length c10, .bool rp.lines] 33).and ((O10.out.and K9.out).alloc _))
                    clear K9 O10
                    generalize w10.alloc (.cells #[.string ⟨rp.S.toArray⟩, .slice A10 rp.l.length c10, .bool rp.lines] 33) = w11 at *
                    obtain ⟨y0, y1, y2⟩ := en_cells KB.out.now.1.1
                    obtain ⟨z0, z1, z2⟩ := en_cells KB.out.now.2.2.1.1
                    have hee : (((ek : Nat) : Int) != (ek : Nat)) = false := by simp
                    go_wp2_with fail
                    have hip2 : w11.iterPos gi = q + 1 := by unfold World.iterPos; rw [KB.out.now.2.2.2.2.2.2]
                    rw [HIP.out, hip2]
                    exact ⟨⟨q + 1, by omega, KB.out.now.2.2.2.2.2.2, KB.out.now.2.2.2.2.2.1⟩, by omega⟩
                  · have e1 : ((nameN q : Int) == m) = false := by simpa using u1
                    by_cases u2 : nameN q = 34
                    · have e2 : ((nameN q : Int) == 34) = true := by rw [u2]; rfl
                      obtain ⟨⟨rq, el⟩, hgs⟩ : ∃ v, getR (put2 R (plN n).toNat 37 x) (nameN q) = v := ⟨_, rfl⟩
                      have HGS := Lib.hid hgs
                      clear hgs u1 u2 hgr
                      go_upto_region 24 with (go_at_call_of 12 g; refine (rgGet_any K7.out.now.1.1 (nameN q) hnb).mono ?_; rw [HGS.out]; rintro e w8 ⟨A8, c8, rfl, own8, b8⟩; replace K7 := Lib.hid (K7.out.step b8); have O8 := Lib.hid (grow_rowG (rowG_own own8)); clear own8 b8)
                      have K9 := Lib.hid ((boxN w8 #[.string ⟨rq.S.toArray⟩, .slice A8 rq.l.length c8, .bool rq.lines] 33).and ((O8.out.and K7.out).alloc _))
                      clear K7 O8
                      generalize w8.alloc (.cells #[.string ⟨rq.S.toArray⟩, .slice A8 rq.l.length c8, .bool rq.lines] 33) = w9 at *
                      go_upto_region 25 with (go_at_call_of 12 g2; refine (rgGet_any K9.out.now.2.2.1.2.1 (nameN q) hnb).mono ?_; rw [HGR.out]; rintro e w10 ⟨A10, c10, rfl, own10, b10⟩; replace K9 := Lib.hid (K9.out.step b10); have O10 := Lib.hid (grow_rowG (rowG_own own10)); clear own10 b10)
                      have KB := Lib.hid ((boxN w10 #[.string ⟨rp.S.toArray⟩, .slice A10 rp.l.length c10, .bool rp.lines] 33).and ((O10.out.and K9.out).alloc _))
                      clear K9 O10
                      generalize w10.alloc (.cells #[.string ⟨rp.S.toArray⟩, .slice A10 rp.l.length c10, .bool rp.lines] 33) = w11 at *
                      obtain ⟨y0, y1, y2⟩ := en_cells KB.out.now.1.1
                      obtain ⟨z0, z1, z2⟩ := en_cells KB.out.now.2.2.1.1
                      have hee : (((ek : Nat) : Int) != (ek : Nat)) = false := by simp
                      go_wp2_with fail
                      have hip2 : w11.iterPos gi = q + 1 := by unfold World.iterPos; rw [KB.out.now.2.2.2.2.2.2]
                      rw [HIP.out, hip2]
                      exact ⟨⟨q + 1, by omega, KB.out.now.2.2.2.2.2.2, KB.out.now.2.2.2.2.2.1⟩, by omega⟩
                    · have e2 : ((nameN q : Int) == 34) = false := by rw [beq_eq_false_iff_ne]; omega
                      have HGS := Lib.hid ((beside hR38.out.len hlet (x := x) hlt (by rw [hlow]; exact u1) u2).trans hgr)
                      clear u1 u2 hgr
                      go_upto_region 24 with (go_at_call_of 12 g; refine (rgGet_any K7.out.now.1.1 (nameN q) hnb).mono ?_; rw [HGS.out]; rintro e w8 ⟨A8, c8, rfl, own8, b8⟩; replace K7 := Lib.hid (K7.out.step b8); have O8 := Lib.hid (grow_rowG (rowG_own own8)); clear own8 b8)
                      have K9 := Lib.hid ((boxN w8 #[.string ⟨rp.S.toArray⟩, .slice A8 rp.l.length c8, .bool rp.lines] 33).and ((O8.out.and K7.out).alloc _))
                      clear K7 O8
                      generalize w8.alloc (.cells #[.string ⟨rp.S.toArray⟩, .slice A8 rp.l.length c8, .bool rp.lines] 33) = w9 at *
                      go_upto_region 25 with (go_at_call_of 12 g2; refine (rgGet_any K9.out.now.2.2.1.2.1 (nameN q) hnb).mono ?_; rw [HGR.out]; rintro e w10 ⟨A10, c10, rfl, own10, b10⟩; replace K9 := Lib.hid (K9.out.step b10); have O10 := Lib.hid (grow_rowG (rowG_own own10)); clear own10 b10)
                      have KB := Lib.hid ((boxN w10 #[.string ⟨rp.S.toArray⟩, .slice A10 rp.l.length c10, .bool rp.lines] 33).and ((O10.out.and K9.out).alloc _))
                      clear K9 O10
                      generalize w10.alloc (.cells #[.string ⟨rp.S.toArray⟩, .slice A10 rp.l.length c10, .bool rp.lines] 33) = w11 at *
                      obtain ⟨y0, y1, y2⟩ := en_cells KB.out.now.1.1
                      obtain ⟨z0, z1, z2⟩ := en_cells KB.out.now.2.2.1.1
                      have hee : (((ek : Nat) : Int) != (ek : Nat)) = false := by simp
                      go_wp2_with (go_at_call 16; refine (refGSame_any A8 A10 c8 c10 rp.S rp.S rp.l rp.l rp.lines rp.lines _ ⟨hrp.1, hrp.2.1, hrp.2.2, KB.out.now.2.2.2.1.row⟩ ⟨hrp.1, hrp.2.1, hrp.2.2, KB.out.now.2.1.row⟩).mono ?_; rw [decide_eq_true ⟨rfl, rfl⟩, beq_self_eq_true, Bool.and_self]; rintro e w12 ⟨rfl, b12⟩; replace KB := Lib.hid (KB.out.step b12); clear b12)
                      have hip2 : w12.iterPos gi = q + 1 := by unfold World.iterPos; rw [KB.out.now.2.2.2.2.2.2]
                      rw [HIP.out, hip2]
                      exact ⟨⟨q + 1, by omega, KB.out.now.2.2.2.2.2.2, KB.out.now.2.2.2.2.2.1⟩, by omega⟩
                · go_wp2_with ((with_reducible refine at_next _ true ?_); refine wpList_nextEnd rfl _ rfl gi rfl namesL q hit hlt ?_)
                  go_ret
                  exact ⟨rfl, K.out.now.2.trans ((K5.out.step hb).now.2.2.mono (Nat.le_of_lt hwb))⟩
            | none_ hun =>
              obtain ⟨q1', q2'⟩ := lowN_un hun
              rw [hlow] at q1' q2'
              have e95 : (m != 95) = true := by rw [bne_iff_ne]; exact q2'
              go_wp2_with fail
              go_ret
              exact ⟨rfl, K.out.now.2.trans (K5.out.now.2.2.mono (Nat.le_of_lt hwb))⟩
          · subst q3
            have hlow := hm
            clear hm
            go_upto_region 18 with fail
            have HD2 := HD.out
            cases HD2 with
            | bad hk0 =>
              have e0 : (((kk : Nat) : Int) == 0) = false := by rw [beq_eq_false_iff_ne]; omega
              clear hk0
              go_wp2_with ((with_reducible refine at_range 9 _ ?_); refine wpList_rangeStr rfl 9 _ rfl Try.underlying9 namesL rfl ?_; intro w6 gi hgi hit6 bi)
              clear d0 d1 d2 d3 d4 d5
              try go_frame
              go_loopw [] (fun wr => ∃ q : Nat, q ≤ 38 ∧ Iter wr gi namesL q ∧ Below w5.heap.size w5 wr) (fun wr => 38 - wr.iterPos gi)
              case atStart => exact ⟨0, by omega, hit6, bi⟩
              case round =>
                clear hit6 bi
                obtain ⟨q, hq, hit, hb⟩ := hrel
                have HIP : Hid (wr.iterPos gi = q) := Lib.hid (show wr.iterPos gi = q by unfold World.iterPos; rw [hit])
                by_cases hlt : q < 38
                · have hd := names_dec q hlt
                  have hnb := name_bound q hlt
                  go_upto_region 23 with ((with_reducible refine at_next _ true ?_); refine wpList_nextStr rfl _ rfl gi rfl namesL q hit hlt ?_; intro w7 hit7 hg7; rw [hd] at hit7; rw [hd])
                  have b7 : Below w5.heap.size w5 w7 := hb.grown hg7 hb.size (fun k hk => by injection hk with hk; omega)
                  have K7 := Lib.hid ((K5.out.step b7).and ((show Grow w7 (fun w' => Below w5.heap.size w5 w') from fun w' h => b7.trans (h.mono b7.size)).and (show Grow w7 (fun w' => Iter w' gi namesL (q + 1)) from fun w' h => hit7.below h hit7.lt)))
                  clear hit hb hit7 hg7 b7 hd
                  obtain ⟨⟨rp, ek⟩, hgr⟩ : ∃ v, getR R (nameN q) = v := ⟨_, rfl⟩
                  have hrp := getR_txt hR38.out (nameN q)
                  rw [hgr] at hrp
                  dsimp only at hrp
                  have HGR := Lib.hid hgr
                  go_upto_region 24 with (go_at_call_of 12 g; refine (rgGet_any K7.out.now.1.1 (nameN q) hnb).mono ?_; rw [HGR.out]; rintro e w8 ⟨A8, c8, rfl, own8, b8⟩; replace K7 := Lib.hid (K7.out.step b8); have O8 := Lib.hid (grow_rowG (rowG_own own8)); clear own8 b8)
                  have K9 := Lib.hid ((boxN w8 #[.string ⟨rp.S.toArray⟩, .slice A8 rp.l.length c8, .bool rp.lines] 33).and ((O8.out.and K7.out).alloc _))
                  clear K7 O8
                  generalize w8.alloc (.cells #[.string ⟨rp.S.toArray⟩, .slice A8 rp.l.length c8, .bool rp.lines] 33) = w9 at *
                  go_upto_region 25 with (go_at_call_of 12 g2; refine (rgGet_any K9.out.now.2.2.1.2.1 (nameN q) hnb).mono ?_; rw [HGR.out]; rintro e w10 ⟨A10, c10, rfl, own10, b10⟩; replace K9 := Lib.hid (K9.out.step b10); have O10 := Lib.hid (grow_rowG (rowG_own own10)); clear own10 b10)
                  have KB := Lib.hid ((boxN w10 #[.string ⟨rp.S.toArray⟩, .slice A10 rp.l.length c10, .bool rp.lines] 33).and ((O10.out.and K9.out).alloc _))
                  clear K9 O10
                  generalize w10.alloc (.cells #[.string ⟨rp.S.toArray⟩, .slice A10 rp.l.length c10, .bool rp.lines] 33) = w11 at *
                  obtain ⟨y0, y1, y2⟩ := en_cells KB.out.now.1.1
                  obtain ⟨z0, z1, z2⟩ := en_cells KB.out.now.2.2.1.1
                  have hee : (((ek : Nat) : Int) != (ek : Nat)) = false := by simp
                  go_wp2_with (go_at_call 16; refine (refGSame_any A8 A10 c8 c10 rp.S rp.S rp.l rp.l rp.lines rp.lines _ ⟨hrp.1, hrp.2.1, hrp.2.2, KB.out.now.2.2.2.1.row⟩ ⟨hrp.1, hrp.2.1, hrp.2.2, KB.out.now.2.1.row⟩).mono ?_; rw [decide_eq_true ⟨rfl, rfl⟩, beq_self_eq_true, Bool.and_self]; rintro e w12 ⟨rfl, b12⟩; replace KB := Lib.hid (KB.out.step b12); clear b12)
                  have hip2 : w12.iterPos gi = q + 1 := by unfold World.iterPos; rw [KB.out.now.2.2.2.2.2.2]
                  rw [HIP.out, hip2]
                  exact ⟨⟨q + 1, by omega, KB.out.now.2.2.2.2.2.2, KB.out.now.2.2.2.2.2.1⟩, by omega⟩
                · go_wp2_with ((with_reducible refine at_next _ true ?_); refine wpList_nextEnd rfl _ rfl gi rfl namesL q hit hlt ?_)
                  go_ret
                  exact ⟨rfl, K.out.now.2.trans ((K5.out.step hb).now.2.2.mono (Nat.le_of_lt hwb))⟩
            | hole h95 => omega
            | letter hlet =>
              have := of_decide_eq_true hlet
              omega
            | none_ hun =>
              obtain ⟨q1', q2'⟩ := lowN_un hun
              rw [hlow] at q1' q2'
              have e95 : (m != 95) = true := by rw [bne_iff_ne]; exact q2'
              go_wp2_with fail
              go_ret
              exact ⟨rfl, K.out.now.2.trans (K5.out.now.2.2.mono (Nat.le_of_lt hwb))⟩
          · subst q3
            have hlow := hm
            clear hm
            go_upto_region 18 with fail
            have HD2 := HD.out
            cases HD2 with
            | bad hk0 =>
              have e0 : (((kk : Nat) : Int) == 0) = false := by rw [beq_eq_false_iff_ne]; omega
              clear hk0
              go_wp2_with ((with_reducible refine at_range 9 _ ?_); refine wpList_rangeStr rfl 9 _ rfl Try.underlying9 namesL rfl ?_; intro w6 gi hgi hit6 bi)
              clear d0 d1 d2 d3 d4 d5
              try go_frame
              go_loopw [] (fun wr => ∃ q : Nat, q ≤ 38 ∧ Iter wr gi namesL q ∧ Below w5.heap.size w5 wr) (fun wr => 38 - wr.iterPos gi)
              case atStart => exact ⟨0, by omega, hit6, bi⟩
              case round =>
                clear hit6 bi
                obtain ⟨q, hq, hit, hb⟩ := hrel
                have HIP : Hid (wr.iterPos gi = q) := Lib.hid (show wr.iterPos gi = q by unfold World.iterPos; rw [hit])
                by_cases hlt : q < 38
                · have hd := names_dec q hlt
                  have hnb := name_bound q hlt
                  go_upto_region 23 with ((with_reducible refine at_next _ true ?_); refine wpList_nextStr rfl _ rfl gi rfl namesL q hit hlt ?_; intro w7 hit7 hg7; rw [hd] at hit7; rw [hd])
                  have b7 : Below w5.heap.size w5 w7 := hb.grown hg7 hb.size (fun k hk => by injection hk with hk; omega)
                  have K7 := Lib.hid ((K5.out.step b7).and ((show Grow w7 (fun w' => Below w5.heap.size w5 w') from fun w' h => b7.trans (h.mono b7.size)).and (show Grow w7 (fun w' => Iter w' gi namesL (q + 1)) from fun w' h => hit7.below h hit7.lt)))
                  clear hit hb hit7 hg7 b7 hd
                  obtain ⟨⟨rp, ek⟩, hgr⟩ : ∃ v, getR R (nameN q) = v := ⟨_, rfl⟩
                  have hrp := getR_txt hR38.out (nameN q)
                  rw [hgr] at hrp
                  dsimp only at hrp
                  have HGR := Lib.hid hgr
                  go_upto_region 24 with (go_at_call_of 12 g; refine (rgGet_any K7.out.now.1.1 (nameN q) hnb).mono ?_; rw [HGR.out]; rintro e w8 ⟨A8, c8, rfl, own8, b8⟩; replace K7 := Lib.hid (K7.out.step b8); have O8 := Lib.hid (grow_rowG (rowG_own own8)); clear own8 b8)
                  have K9 := Lib.hid ((boxN w8 #[.string ⟨rp.S.toArray⟩, .slice A8 rp.l.length c8, .bool rp.lines] 33).and ((O8.out.and K7.out).alloc _))
                  clear K7 O8
                  generalize w8.alloc (.cells #[.string ⟨rp.S.toArray⟩, .slice A8 rp.l.length c8, .bool rp.lines] 33) = w9 at *
                  go_upto_region 25 with (go_at_call_of 12 g2; refine (rgGet_any K9.out.now.2.2.1.2.1 (nameN q) hnb).mono ?_; rw [HGR.out]; rintro e w10 ⟨A10, c10, rfl, own10, b10⟩; replace K9 := Lib.hid (K9.out.step b10); have O10 := Lib.hid (grow_rowG (rowG_own own10)); clear own10 b10)
                  have KB := Lib.hid ((boxN w10 #[.string ⟨rp.S.toArray⟩, .slice A10 rp.l.length c10, .bool rp.lines] 33).and ((O10.out.and K9.out).alloc _))
                  clear K9 O10
                  generalize w10.alloc (.cells #[.string ⟨rp.S.toArray⟩, .slice A10 rp.l.length c10, .bool rp.lines] 33) = w11 at *
                  obtain ⟨y0, y1, y2⟩ := en_cells KB.out.now.1.1
                  obtain ⟨z0, z1, z2⟩ := en_cells KB.out.now.2.2.1.1
                  have hee : (((ek : Nat) : Int) != (ek : Nat)) = false := by simp
                  go_wp2_with (go_at_call 16; refine (refGSame_any A8 A10 c8 c10 rp.S rp.S rp.l rp.l rp.lines rp.lines _ ⟨hrp.1, hrp.2.1, hrp.2.2, KB.out.now.2.2.2.1.row⟩ ⟨hrp.1, hrp.2.1, hrp.2.2, KB.out.now.2.1.row⟩).mono ?_; rw [decide_eq_true ⟨rfl, rfl⟩, beq_self_eq_true, Bool.and_self]; rintro e w12 ⟨rfl, b12⟩; replace KB := Lib.hid (KB.out.step b12); clear b12)
                  have hip2 : w12.iterPos gi = q + 1 := by unfold World.iterPos; rw [KB.out.now.2.2.2.2.2.2]
                  rw [HIP.out, hip2]
                  exact ⟨⟨q + 1, by omega, KB.out.now.2.2.2.2.2.2, KB.out.now.2.2.2.2.2.1⟩, by omega⟩
                · go_wp2_with ((with_reducible refine at_next _ true ?_); refine wpList_nextEnd rfl _ rfl gi rfl namesL q hit hlt ?_)
                  go_ret
                  exact ⟨rfl, K.out.now.2.trans ((K5.out.step hb).now.2.2.mono (Nat.le_of_lt hwb))⟩
            | hole h95 =>
              have e95 : (m != 95) = false := by rw [← hlow, h95]; rfl
              clear h95
              go_wp2_with ((with_reducible refine at_range 9 _ ?_); refine wpList_rangeStr rfl 9 _ rfl Try.underlying9 namesL rfl ?_; intro w6 gi hgi hit6 bi)
              clear d0 d1 d2 d3 d4 d5
              try go_frame
              go_loopw [] (fun wr => ∃ q : Nat, q ≤ 38 ∧ Iter wr gi namesL q ∧ Below w5.heap.size w5 wr) (fun wr => 38 - wr.iterPos gi)
              case atStart => exact ⟨0, by omega, hit6, bi⟩
              case round =>
                clear hit6 bi
                obtain ⟨q, hq, hit, hb⟩ := hrel
                have HIP : Hid (wr.iterPos gi = q) := Lib.hid (show wr.iterPos gi = q by unfold World.iterPos; rw [hit])
                by_cases hlt : q < 38
                · have hd := names_dec q hlt
                  have hnb := name_bound q hlt
                  go_upto_region 23 with ((with_reducible refine at_next _ true ?_); refine wpList_nextStr rfl _ rfl gi rfl namesL q hit hlt ?_; intro w7 hit7 hg7; rw [hd] at hit7; rw [hd])
                  have b7 : Below w5.heap.size w5 w7 := hb.grown hg7 hb.size (fun k hk => by injection hk with hk; omega)
                  have K7 := Lib.hid ((K5.out.step b7).and ((show Grow w7 (fun w' => Below w5.heap.size w5 w') from fun w' h => b7.trans (h.mono b7.size)).and (show Grow w7 (fun w' => Iter w' gi namesL (q + 1)) from fun w' h => hit7.below h hit7.lt)))
                  clear hit hb hit7 hg7 b7 hd
                  obtain ⟨⟨rp, ek⟩, hgr⟩ : ∃ v, getR R (nameN q) = v := ⟨_, rfl⟩
                  have hrp := getR_txt hR38.out (nameN q)
                  rw [hgr] at hrp
                  dsimp only at hrp
                  have HGR := Lib.hid hgr
                  go_upto_region 24 with (go_at_call_of 12 g; refine (rgGet_any K7.out.now.1.1 (nameN q) hnb).mono ?_; rw [HGR.out]; rintro e w8 ⟨A8, c8, rfl, own8, b8⟩; replace K7 := Lib.hid (K7.out.step b8); have O8 := Lib.hid (grow_rowG (rowG_own own8)); clear own8 b8)
                  have K9 := Lib.hid ((boxN w8 #[.string ⟨rp.S.toArray⟩, .slice A8 rp.l.length c8, .bool rp.lines] 33).and ((O8.out.and K7.out).alloc _))
                  clear K7 O8
                  generalize w8.alloc (.cells #[.string ⟨rp.S.toArray⟩, .slice A8 rp.l.length c8, .bool rp.lines] 33) = w9 at *
                  go_upto_region 25 with (go_at_call_of 12 g2; refine (rgGet_any K9.out.now.2.2.1.2.1 (nameN q) hnb).mono ?_; rw [HGR.out]; rintro e w10 ⟨A10, c10, rfl, own10, b10⟩; replace K9 := Lib.hid (K9.out.step b10); have O10 := Lib.hid (grow_rowG (rowG_own own10)); clear own10 b10)
                  have KB := Lib.hid ((boxN w10 #[.string ⟨rp.S.toArray⟩, .slice A10 rp.l.length c10, .bool rp.lines] 33).and ((O10.out.and K9.out).alloc _))
                  clear K9 O10
                  generalize w10.alloc (.cells #[.string ⟨rp.S.toArray⟩, .slice A10 rp.l.length c10, .bool rp.lines] 33) = w11 at *
                  obtain ⟨y0, y1, y2⟩ := en_cells KB.out.now.1.1
                  obtain ⟨z0, z1, z2⟩ := en_cells KB.out.now.2.2.1.1
                  have hee : (((ek : Nat) : Int) != (ek : Nat)) = false := by simp
                  go_wp2_with (go_at_call 16; refine (refGSame_any A8 A10 c8 c10 rp.S rp.S rp.l rp.l rp.lines rp.lines _ ⟨hrp.1, hrp.2.1, hrp.2.2, KB.out.now.2.2.2.1.row⟩ ⟨hrp.1, hrp.2.1, hrp.2.2, KB.out.now.2.1.row⟩).mono ?_; rw [decide_eq_true ⟨rfl, rfl⟩, beq_self_eq_true, Bool.and_self]; rintro e w12 ⟨rfl, b12⟩; replace KB := Lib.hid (KB.out.step b12); clear b12)
                  have hip2 : w12.iterPos gi = q + 1 := by unfold World.iterPos; rw [KB.out.now.2.2.2.2.2.2]
                  rw [HIP.out, hip2]
                  exact ⟨⟨q + 1, by omega, KB.out.now.2.2.2.2.2.2, KB.out.now.2.2.2.2.2.1⟩, by omega⟩
                · go_wp2_with ((with_reducible refine at_next _ true ?_); refine wpList_nextEnd rfl _ rfl gi rfl namesL q hit hlt ?_)
                  go_ret
                  exact ⟨rfl, K.out.now.2.trans ((K5.out.step hb).now.2.2.mono (Nat.le_of_lt hwb))⟩
            | letter hlet =>
              rename_i x
              obtain ⟨l1, l2, _⟩ := lowN_letter hlet
              rw [hlow] at l1 l2
              have e95 : (m != 95) = true := by rw [bne_iff_ne]; omega
              go_wp2_with ((with_reducible refine at_range 9 _ ?_); refine wpList_rangeStr rfl 9 _ rfl Try.underlying9 namesL rfl ?_; intro w6 gi hgi hit6 bi)
              clear d0 d1 d2 d3 d4 d5
              try go_frame
              go_loopw [] (fun wr => ∃ q : Nat, q ≤ 38 ∧ Iter wr gi namesL q ∧ Below w5.heap.size w5 wr) (fun wr => 38 - wr.iterPos gi)
              case atStart => exact ⟨0, by omega, hit6, bi⟩
              case round =>
                clear hit6 bi
                obtain ⟨q, hq, hit, hb⟩ := hrel
                have HIP : Hid (wr.iterPos gi = q) := Lib.hid (show wr.iterPos gi = q by unfold World.iterPos; rw [hit])
                by_cases hlt : q < 38
                · have hd := names_dec q hlt
                  have hnb := name_bound q hlt
                  go_upto_region 23 with ((with_reducible refine at_next _ true ?_); refine wpList_nextStr rfl _ rfl gi rfl namesL q hit hlt ?_; intro w7 hit7 hg7; rw [hd] at hit7; rw [hd])
                  have b7 : Below w5.heap.size w5 w7 := hb.grown hg7 hb.size (fun k hk => by injection hk with hk; omega)
                  have K7 := Lib.hid ((K5.out.step b7).and ((show Grow w7 (fun w' => Below w5.heap.size w5 w') from fun w' h => b7.trans (h.mono b7.size)).and (show Grow w7 (fun w' => Iter w' gi namesL (q + 1)) from fun w' h => hit7.below h hit7.lt)))
                  clear hit hb hit7 hg7 b7 hd
                  obtain ⟨⟨rp, ek⟩, hgr⟩ : ∃ v, getR R (nameN q) = v := ⟨_, rfl⟩
                  have hrp := getR_txt hR38.out (nameN q)
                  rw [hgr] at hrp
                  dsimp only at hrp
                  have HGR := Lib.hid hgr
                  have HLN := Lib.hid hlow
                  by_cases u1 : (nameN q : Int) = m
                  · have e1 : ((nameN q : Int) == m) = true := by rw [u1]; simp
                    obtain ⟨⟨rq, el⟩, hgs⟩ : ∃ v, getR (put2 R (plN m).toNat 37 x) (nameN q) = v := ⟨_, rfl⟩
                    have HGS := Lib.hid hgs
                    clear hgs u1 hgr
                    go_upto_region 24 with (go_at_call_of 12 g; refine (rgGet_any K7.out.now.1.1 (nameN q) hnb).mono ?_; rw [HGS.out]; rintro e w8 ⟨A8, c8, rfl, own8, b8⟩; replace K7 := Lib.hid (K7.out.step b8); have O8 := Lib.hid (grow_rowG (rowG_own own8)); clear own8 b8)
                    have K9 := Lib.hid ((boxN w8 #[.string ⟨rq.S.toArray⟩, .slice A8 rq.l.length c8, .bool rq.lines] 33).and ((O8.out.and K7.out).alloc _))
                    clear K7 O8
                    generalize w8.alloc (.cells #[.string ⟨rq.S.toArray⟩, .slice A8 rq.l.length c8, .bool rq.lines] 33) = w9 at *
                    go_upto_region 25 with (go_at_call_of 12 g2; refine (rgGet_any K9.out.now.2.2.1.2.1 (nameN q) hnb).mono ?_; rw [HGR.out]; rintro e w10 ⟨A10, c10, rfl, own10, b10⟩; replace K9 := Lib.hid (K9.out.step b10); have O10 := Lib.hid (grow_rowG (rowG_own own10)); clear own10 b10)
                    have KB := Lib.hid ((boxN w10 #[.string ⟨rp.S.toArray⟩, .slice A10 rp.l.length c10, .bool rp.lines] 33).and ((O10.out.and K9.out).alloc _))
                    clear K9 O10
                    generalize w10.alloc (.cells #[.string ⟨rp.S.toArray⟩, .slice A10 rp.l.length c10, .bool rp.lines] 33) = w11 at *
                    obtain ⟨y0, y1, y2⟩ := en_cells KB.out.now.1.1
                    obtain ⟨z0, z1, z2⟩ := en_cells KB.out.now.2.2.1.1
                    have hee : (((ek : Nat) : Int) != (ek : Nat)) = false := by simp
                    go_wp2_with fail
                    have hip2 : w11.iterPos gi = q + 1 := by unfold World.iterPos; rw [KB.out.now.2.2.2.2.2.2]
                    rw [HIP.out, hip2]
                    exact ⟨⟨q + 1, by omega, KB.out.now.2.2.2.2.2.2, KB.out.now.2.2.2.2.2.1⟩, by omega⟩
                  · have e1 : ((nameN q : Int) == m) = false := by simpa using u1
                    by_cases u2 : nameN q = 34
                    · have e2 : ((nameN q : Int) == 34) = true := by rw [u2]; rfl
                      obtain ⟨⟨rq, el⟩, hgs⟩ : ∃ v, getR (put2 R (plN m).toNat 37 x) (nameN q) = v := ⟨_, rfl⟩
                      have HGS := Lib.hid hgs
                      clear hgs u1 u2 hgr
                      go_upto_region 24 with (go_at_call_of 12 g; refine (rgGet_any K7.out.now.1.1 (nameN q) hnb).mono ?_; rw [HGS.out]; rintro e w8 ⟨A8, c8, rfl, own8, b8⟩; replace K7 := Lib.hid (K7.out.step b8); have O8 := Lib.hid (grow_rowG (rowG_own own8)); clear own8 b8)
                      have K9 := Lib.hid ((boxN w8 #[.string ⟨rq.S.toArray⟩, .slice A8 rq.l.length c8, .bool rq.lines] 33).and ((O8.out.and K7.out).alloc _))
                      clear K7 O8
                      generalize w8.alloc (.cells #[.string ⟨rq.S.toArray⟩, .slice A8 rq.l.length c8, .bool rq.lines] 33) = w9 at *
                      go_upto_region 25 with (go_at_call_of 12 g2; refine (rgGet_any K9.out.now.2.2.1.2.1 (nameN q) hnb).mono ?_; rw [HGR.out]; rintro e w10 ⟨A10, c10, rfl, own10, b10⟩; replace K9 := Lib.hid (K9.out.step b10); have O10 := Lib.hid (grow_rowG (rowG_own own10)); clear own10 b10)
                      have KB := Lib.hid ((boxN w10 #[.string ⟨rp.S.toArray⟩, .slice A10 rp.l.length c10, .bool rp.lines] 33).and ((O10.out.and K9.out).alloc _))
                      clear K9 O10
                      generalize w10.alloc (.cells #[.string ⟨rp.S.toArray⟩, .slice A10 rp.l.length c10, .bool rp.lines] 33) = w11 at *
                      obtain ⟨y0, y1, y2⟩ := en_cells KB.out.now.1.1
                      obtain ⟨z0, z1, z2⟩ := en_cells KB.out.now.2.2.1.1
                      have hee : (((ek : Nat) : Int) != (ek : Nat)) = false := by simp
                      go_wp2_with fail
                      have hip2 : w11.iterPos gi = q + 1 := by unfold World.iterPos; rw [KB.out.now.2.2.2.2.2.2]
                      rw [HIP.out, hip2]
                      exact ⟨⟨q + 1, by omega, KB.out.now.2.2.2.2.2.2, KB.out.now.2.2.2.2.2.1⟩, by omega⟩
                    · have e2 : ((nameN q : Int) == 34) = false := by rw [beq_eq_false_iff_ne]; omega
                      have HGS := Lib.hid ((beside hR38.out.len hlet (x := x) hlt (by rw [hlow]; exact u1) u2).trans hgr)
                      clear u1 u2 hgr
                      go_upto_region 24 with (go_at_call_of 12 g; refine (rgGet_any K7.out.now.1.1 (nameN q) hnb).mono ?_; rw [HGS.out]; rintro e w8 ⟨A8, c8, rfl, own8, b8⟩; replace K7 := Lib.hid (K7.out.step b8); have O8 := Lib.hid (grow_rowG (rowG_own own8)); clear own8 b8)
                      have K9 := Lib.hid ((boxN w8 #[.string ⟨rp.S.toArray⟩, .slice A8 rp.l.length c8, .bool rp.lines] 33).and ((O8.out.and K7.out).alloc _))
                      clear K7 O8
                      generalize w8.alloc (.cells #[.string ⟨rp.S.toArray⟩, .slice A8 rp.l.length c8, .bool rp.lines] 33) = w9 at *
                      go_upto_region 25 with (go_at_call_of 12 g2; refine (rgGet_any K9.out.now.2.2.1.2.1 (nameN q) hnb).mono ?_; rw [HGR.out]; rintro e w10 ⟨A10, c10, rfl, own10, b10⟩; replace K9 := Lib.hid (K9.out.step b10); have O10 := Lib.hid (grow_rowG (rowG_own own10)); clear own10 b10)
                      have KB := Lib.hid ((boxN w10 #[.string ⟨rp.S.toArray⟩, .slice A10 rp.l.length c10, .bool rp.lines] 33).and ((O10.out.and K9.out).alloc _))
                      clear K9 O10
                      generalize w10.alloc (.cells #[.string ⟨rp.S.toArray⟩, .slice A10 rp.l.length c10, .bool rp.lines] 33) = w11 at *
                      obtain ⟨y0, y1, y2⟩ := en_cells KB.out.now.1.1
                      obtain ⟨z0, z1, z2⟩ := en_cells KB.out.now.2.2.1.1
                      have hee : (((ek : Nat) : Int) != (ek : Nat)) = false := by simp
                      go_wp2_with (go_at_call 16; refine (refGSame_any A8 A10 c8 c10 rp.S rp.S rp.l rp.l rp.lines rp.lines _ ⟨hrp.1, hrp.2.1, hrp.2.2, KB.out.now.2.2.2.1.row⟩ ⟨hrp.1, hrp.2.1, hrp.2.2, KB.out.now.2.1.row⟩).mono ?_; rw [decide_eq_true ⟨rfl, rfl⟩, beq_self_eq_true, Bool.and_self]; rintro e w12 ⟨rfl, b12⟩; replace KB := Lib.hid (KB.out.step b12); clear b12)
                      have hip2 : w12.iterPos gi = q + 1 := by unfold World.iterPos; rw [KB.out.now.2.2.2.2.2.2]
                      rw [HIP.out, hip2]
                      exact ⟨⟨q + 1, by omega, KB.out.now.2.2.2.2.2.2, KB.out.now.2.2.2.2.2.1⟩, by omega⟩
                · go_wp2_with ((with_reducible refine at_next _ true ?_); refine wpList_nextEnd rfl _ rfl gi rfl namesL q hit hlt ?_)
                  go_ret
                  exact ⟨rfl, K.out.now.2.trans ((K5.out.step hb).now.2.2.mono (Nat.le_of_lt hwb))⟩
            | none_ hun =>
              obtain ⟨q1', q2'⟩ := lowN_un hun
              rw [hlow] at q1' q2'
              have e95 : (m != 95) = true := by rw [bne_iff_ne]; exact q2'
              go_wp2_with fail
              go_ret
              exact ⟨rfl, K.out.now.2.trans (K5.out.now.2.2.mono (Nat.le_of_lt hwb))⟩
        · go_wp2_with (go_at_call 9; refine (lawFits_any S hS l hl AL cl _).mono ?_; rw [decide_eq_false hf]; rintro e w4 ⟨rfl, b4⟩; replace KL := Lib.hid (KL.out.step b4); clear d0 d1 d2 d3 d4 d5 b4)
          go_ret
          exact ⟨rfl, K.out.now.2.trans (KL.out.now.2.2.mono (Nat.le_of_lt hwb))⟩
end Go.Proofs.Ytcpijnoabipefaa

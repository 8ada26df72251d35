/-
  The landed store: joined, walked: layer 5.
-/
import Derived.Test.YtacpfkkbjibmgaaPieJoin
namespace Go.Proofs.Ytacpfkkbjibmgaa
open Go.RowKit

/-- the three cells of a place in a block known whole -/
theorem blk_at {w : World} {g T : Nat} {L : List Value} (h : Blk w g T L.toArray) (k : Nat) {a b c : Value} (h0 : L[k * 3]? = some a ∧ L[k * 3 + 1]? = some b ∧ L[k * 3 + 2]? = some c) (ad : Addr) (e : (⟨g, 0, none⟩ : Addr) = ad) :
    w.cell? (ad.add (k * 3)) = some a ∧ w.cell? ⟨(ad.add (k * 3)).block, (ad.add (k * 3)).off + 1, none⟩ = some b ∧ w.cell? ⟨(ad.add (k * 3)).block, (ad.add (k * 3)).off + 2, none⟩ = some c := by
  subst e
  rw [base_add]
  refine ⟨?_, ?_, ?_⟩
  · rw [h.cell]; simpa using h0.1
  · rw [h.cell]; simpa using h0.2.1
  · rw [h.cell]; simpa using h0.2.2

theorem grown_setCell (w : World) (g i : Nat) (u : Value) : w.grownBy (w.setCell ⟨g, i, none⟩ u) (some g) := ⟨rfl, rfl, rfl, by simp, fun k _ hk => heap_setCell_other w _ k u (fun e => hk (by rw [e]))⟩

set_option maxHeartbeats 4000000 in
theorem pieJoined_some (bs : List UInt8) (g c : Nat) (L0 : List Value) (ps : List PieP) (ok : OkP bs ps) (hbs : bs.length ≤ 100000) (hlen : ps.length ≤ 100000) (w : World) (hg : Blk w g 73 L0.toArray) (hc : ps.length ≤ c) (hL : L0.length = c * 3) (h0 : L0.take (ps.length * 3) = flatP ps) :
    Calls Try.prog 32 #[.slice (some ⟨g, 0, none⟩) ps.length c] w fun e w' => e = .returned (.slice (some ⟨g, 0, none⟩) (joinP ps).length c) ∧
      (∃ L, Blk w' g 73 L.toArray ∧ Joins ps L0 ps.length L) ∧ w.grownBy w' (some g) := by
  have HOK := Lib.hid ok
  have H0 := Lib.hid h0
  have HG0 := Lib.hid hg
  have hgl := hg.lt
  clear ok h0 hg
  generalize hga : (⟨g, 0, none⟩ : Addr) = ad1 at *
  have HGA := Lib.hid hga
  clear hga
  have hx1 : (0 : Int) ≤ (c : Int) := by omega
  go_enter Try.func32, Try.ntmps32
  go_wp2
  go_loopw [3, 11] (fun v i wr => ∃ k : Nat, k ≤ ps.length ∧ i = .int .i64 k ∧ (∃ nn, v = .slice (some ad1) nn c ∧ Hid (nn = (joinP (ps.take k)).length)) ∧ Hid (∃ L, Blk wr g 73 L.toArray ∧ Joins ps L0 k L) ∧ w.grownBy wr (some g)) (fun _ i _ => ps.length - (intOf i).toNat)
  case atStart => exact ⟨0, Nat.zero_le _, rfl, ⟨0, rfl, rfl⟩, ⟨L0, HG0.out, ⟨rfl, by simp [joinP, flatP], by simp⟩⟩, grown_refl _ _⟩
  case round =>
    obtain ⟨k, hk, rfl, ⟨nn, rfl, HNN⟩, HI, hgr⟩ := hrel
    by_cases hlt : k < ps.length
    · have hji := Lib.hid (joinP_says HOK.out k hk)
      obtain ⟨L, hL1, hJ⟩ := HI.out
      have HL1 := Lib.hid hL1
      have HJ := Lib.hid hJ
      have hll := hJ.len
      have hgl1 := hL1.lt
      obtain ⟨c0, c1, c2⟩ := blk_at hL1 k (hJ.get H0.out hlt) ad1 HGA.out
      clear HI hL1 hJ
      have hok := HOK.out ps[k] (List.getElem_mem hlt)
      have hjl : (joinP (ps.take k)).length ≤ k := hji.out.2.2.2
      have HPUSH : Hid (joinStep (joinP (ps.take k)) ps[k] = joinP (ps.take k) ++ [ps[k]] → Joins ps L0 (k + 1) (splice L ((joinP (ps.take k)).length * 3) (flatP [ps[k]])) ∧ joinP (ps.take (k + 1)) = joinP (ps.take k) ++ [ps[k]]) := fun e => ⟨HJ.out.push hlt rfl hjl (by omega) e, by rw [List.take_succ_eq_append_getElem hlt, joinP_snoc, e]⟩
      have HMERGE : Hid (∀ acc q, joinP (ps.take k) = acc ++ [q] → joinStep (joinP (ps.take k)) ps[k] = acc ++ [(q.1, q.2.1 + ps[k].2.1, q.2.2)] → Joins ps L0 (k + 1) (L.set (acc.length * 3 + 1) (.int .i64 ((q.2.1 + ps[k].2.1 : Nat) : Int))) ∧ (joinP (ps.take (k + 1))).length = acc.length + 1) := fun acc q e e2 =>
        ⟨HJ.out.merge hlt e (by rw [e] at hjl; simpa using hjl) e2, by rw [List.take_succ_eq_append_getElem hlt, joinP_snoc, e2]; simp⟩
      have HOKJ : Hid (∀ q ∈ joinP (ps.take k), 0 < q.2.1 ∧ q.1 + q.2.1 ≤ bs.length ∧ q.2.2 < 18446744073709551616) := hji.out.1
      have HLAST : Hid (∀ acc q, joinP (ps.take k) = acc ++ [q] → L[acc.length * 3]? = some (.int .i64 (q.1 : Nat)) ∧ L[acc.length * 3 + 1]? = some (.int .i64 (q.2.1 : Nat)) ∧ L[acc.length * 3 + 2]? = some (.int .u64 (q.2.2 : Nat))) := fun acc q e => HJ.out.last e
      clear hji HJ
      have HMX : Hid ((joinP (ps.take k)).length + 1 ≤ c ∧ ((joinP (ps.take k)).length + 1) * 3 ≤ L.length) := by show _ ∧ _; exact ⟨by omega, by omega⟩
      generalize joinP (ps.take k) = jk at *
      generalize ps[k] = r at *
      obtain ⟨x, n, l⟩ := r
      dsimp only at *
      have PB : Hid (Blk (wr.alloc (.cells #[.int .i64 (x : Nat), .int .i64 (n : Nat), .int .u64 (l : Nat)] 73)) wr.heap.size 73 #[.int .i64 (x : Nat), .int .i64 (n : Nat), .int .u64 (l : Nat)]) := Blk.new _ _ _
      have LB := Lib.hid (HL1.out.alloc (.cells #[.int .i64 (x : Nat), .int .i64 (n : Nat), .int .u64 (l : Nat)] 73))
      have GB := Lib.hid (grown_trans hgr (World.grownBy_alloc wr (.cells #[.int .i64 (x : Nat), .int .i64 (n : Nat), .int .u64 (l : Nat)] 73) (some g)))
      clear HL1
      rcases snoc_cases jk with rfl | ⟨acc, q, rfl⟩
      · obtain rfl : nn = 0 := HNN.out
        have HP := Lib.hid (HPUSH.out (joinStep_nil _))
        clear HPUSH HMERGE HLAST
        go_wp2_with fail
        generalize wr.alloc (.cells #[.int .i64 (x : Nat), .int .i64 (n : Nat), .int .u64 (l : Nat)] 73) = wa at *
        obtain ⟨y0, y1, y2⟩ := blk_three PB.out
        clear c0 c1 c2
        go_quiet (fail)
        have LB1 := Lib.hid (LB.out.drewN nq)
        have GB1 := Lib.hid (grown_drew GB.out nq)
        have PB1 := Lib.hid (PB.out.drewN nq)
        clear y0 y1 y2
        generalize wa.drewN nq = wb at *
        obtain ⟨y0, y1, y2⟩ := blk_three PB1.out
        go_wp2_with (at_builtin; refine wpList_pushRoom rfl _ _ _ rfl 73 _ 3 24 elt_pie 73 g 0 c ad1 HGA.out L 73 rfl LB1.out [.int .i64 (x : Nat), .int .i64 (n : Nat), .int .u64 (l : Nat)] rfl rfl (by simp [Value.oneCell']) HMX.out.1 HMX.out.2 ?_; intro w5 hL5 hg5; have HL5 : Hid (Blk w5 g 73 (splice L (0 * 3) (flatP [(x, n, l)])).toArray) := hL5; have HG5 := Lib.hid (grown_trans GB1.out hg5); clear hL5 hg5)
        go_roundw
        case rel => exact ⟨k + 1, by omega, by go_num, ⟨_, rfl, by show _ = _; rw [HP.out.2]; rfl⟩, ⟨_, HL5.out, HP.out.1⟩, HG5.out⟩
        case measure => simp [intOf]; omega
      · have hq := HOKJ.out q (by simp)
        have hla : (acc ++ [q]).length = acc.length + 1 := by simp
        rw [hla] at HMX HPUSH hjl HNN
        obtain rfl : nn = acc.length + 1 := HNN.out
        have HLAST2 := Lib.hid (HLAST.out acc q rfl)
        have HLA := Lib.hid hla
        clear hla HLAST HOKJ
        obtain ⟨y, m, l2⟩ := q
        dsimp only at *
        have hww := wrap_small (acc.length : Int) (by omega) (by omega)
        have hwn := wrap_small ((m : Int) + (n : Int)) (by omega) (by omega)
        have hwy := wrap_small ((y : Int) + (m : Int)) (by omega) (by omega)
        have i1 : (0 : Int) ≤ (acc.length : Int) := by omega
        have i2 : (acc.length : Int) < (acc.length : Int) + 1 := by omega
        have DB := Lib.hid (blk_at LB.out acc.length (HLAST2.out) ad1 HGA.out)
        have FB : Hid (∀ (w' : World), Blk w' g 73 L.toArray → w'.frozen? ⟨(ad1.add (acc.length * 3)).block, (ad1.add (acc.length * 3)).off + 1, none⟩ = false ∧ Blk (w'.setCell ⟨(ad1.add (acc.length * 3)).block, (ad1.add (acc.length * 3)).off + 1, none⟩ (.int .i64 ((m : Int) + (n : Int)))) g 73 (L.set (acc.length * 3 + 1) (.int .i64 ((m + n : Nat) : Int))).toArray ∧ w'.grownBy (w'.setCell ⟨(ad1.add (acc.length * 3)).block, (ad1.add (acc.length * 3)).off + 1, none⟩ (.int .i64 ((m : Int) + (n : Int)))) (some g)) := fun w' h' => by
          rw [← HGA.out, base_add]
          refine ⟨h'.frozen _, ?_, grown_setCell _ _ _ _⟩
          have := h'.set_ (acc.length * 3 + 1) (.int .i64 ((m : Int) + (n : Int)))
          rw [List.setIfInBounds_toArray] at this
          exact this
        by_cases hl : l2 = l
        · by_cases hx : y + m = x
          · have HP := Lib.hid (HMERGE.out acc (y, m, l2) rfl (by rw [joinStep_snoc, if_pos ⟨hl, hx⟩]))
            clear HMERGE HPUSH
            subst hl
            have HXX := Lib.hid hx
            have ht : ((y : Int) + (m : Int) == (x : Int)) = true := by simp; omega
            clear hx
            go_wp2_with fail
            generalize wr.alloc (.cells #[.int .i64 (x : Nat), .int .i64 (n : Nat), .int .u64 (l2 : Nat)] 73) = wa at *
            obtain ⟨y0, y1, y2⟩ := blk_three PB.out
            obtain ⟨d0, d1, d2⟩ := DB.out
            clear c0 c1 c2
            go_quiet (fail)
            go_wp2_with fail
            refine wp_region_still_tail 10 (by kernel_rfl) (by kernel_rfl) ?_
            simp only [List.take_succ_cons, List.take_zero, List.drop_succ_cons, List.drop_zero]
            change wpStill _ _ (World.drew (wa.drewN nq)) (fun a' => wpList _ _ _ _ a' (World.drew (wa.drewN nq))) _ _
            have e9 : (wa.drewN nq).drew = wa.drewN (nq + 1) := rfl
            rw [e9]
            have GB1 := Lib.hid (grown_drew GB.out (nq + 1))
            have FB1 := Lib.hid (FB.out _ (LB.out.drewN (nq + 1)))
            have y11 := (blk_three (PB.out.drewN (nq + 1))).2.1
            have d11 : (wa.drewN (nq + 1)).cell? ⟨(ad1.add (acc.length * 3)).block, (ad1.add (acc.length * 3)).off + 1, none⟩ = some (.int .i64 (m : Nat)) := d1
            have f11 := FB1.out.1
            clear y0 y1 y2 d0 d1 d2 e9
            generalize wa.drewN (nq + 1) = wb at *
            repeat still_step
            refine wpStill_nil ?_
            go_wp2
            go_roundw
            case rel => exact ⟨k + 1, by omega, by go_num, ⟨_, rfl, by show _ = _; rw [HP.out.2]⟩, ⟨_, FB1.out.2.1, HP.out.1⟩, grown_trans GB1.out FB1.out.2.2⟩
            case measure => simp [intOf]; omega
          · have HP := Lib.hid (HPUSH.out (by rw [joinStep_snoc, if_neg (fun h => hx h.2)]))
            clear HMERGE HPUSH
            subst hl
            have ht : ((y : Int) + (m : Int) == (x : Int)) = false := by simp; omega
            clear hx
            go_wp2_with fail
            generalize wr.alloc (.cells #[.int .i64 (x : Nat), .int .i64 (n : Nat), .int .u64 (l2 : Nat)] 73) = wa at *
            obtain ⟨y0, y1, y2⟩ := blk_three PB.out
            obtain ⟨d0, d1, d2⟩ := DB.out
            clear c0 c1 c2
            go_quiet (fail)
            have LB1 := Lib.hid (LB.out.drewN nq)
            have GB1 := Lib.hid (grown_drew GB.out nq)
            have PB1 := Lib.hid (PB.out.drewN nq)
            clear y0 y1 y2 d0 d1 d2
            generalize wa.drewN nq = wb at *
            obtain ⟨y0, y1, y2⟩ := blk_three PB1.out
            go_wp2_with (at_builtin; refine wpList_pushRoom rfl _ _ _ rfl 73 _ 3 24 elt_pie 73 g (acc.length + 1) c ad1 HGA.out L 73 rfl LB1.out [.int .i64 (x : Nat), .int .i64 (n : Nat), .int .u64 (l2 : Nat)] rfl rfl (by simp [Value.oneCell']) HMX.out.1 HMX.out.2 ?_; intro w5 hL5 hg5; have HL5 : Hid (Blk w5 g 73 (splice L ((acc.length + 1) * 3) (flatP [(x, n, l2)])).toArray) := hL5; have HG5 := Lib.hid (grown_trans GB1.out hg5); clear hL5 hg5)
            go_roundw
            case rel => exact ⟨k + 1, by omega, by go_num, ⟨_, rfl, by show _ = _; rw [HP.out.2, List.length_append, HLA.out]; rfl⟩, ⟨_, HL5.out, HP.out.1⟩, HG5.out⟩
            case measure => simp [intOf]; omega
        · have HP := Lib.hid (HPUSH.out (by rw [joinStep_snoc, if_neg (fun h => hl h.1)]))
          clear HMERGE HPUSH
          have ht : ((l2 : Int) == (l : Int)) = false := by simp; omega
          clear hl
          go_wp2_with fail
          generalize wr.alloc (.cells #[.int .i64 (x : Nat), .int .i64 (n : Nat), .int .u64 (l : Nat)] 73) = wa at *
          obtain ⟨y0, y1, y2⟩ := blk_three PB.out
          obtain ⟨d0, d1, d2⟩ := DB.out
          clear c0 c1 c2
          go_quiet (fail)
          have LB1 := Lib.hid (LB.out.drewN nq)
          have GB1 := Lib.hid (grown_drew GB.out nq)
          have PB1 := Lib.hid (PB.out.drewN nq)
          clear y0 y1 y2 d0 d1 d2
          generalize wa.drewN nq = wb at *
          obtain ⟨y0, y1, y2⟩ := blk_three PB1.out
          go_wp2_with (at_builtin; refine wpList_pushRoom rfl _ _ _ rfl 73 _ 3 24 elt_pie 73 g (acc.length + 1) c ad1 HGA.out L 73 rfl LB1.out [.int .i64 (x : Nat), .int .i64 (n : Nat), .int .u64 (l : Nat)] rfl rfl (by simp [Value.oneCell']) HMX.out.1 HMX.out.2 ?_; intro w5 hL5 hg5; have HL5 : Hid (Blk w5 g 73 (splice L ((acc.length + 1) * 3) (flatP [(x, n, l)])).toArray) := hL5; have HG5 := Lib.hid (grown_trans GB1.out hg5); clear hL5 hg5)
          go_roundw
          case rel => exact ⟨k + 1, by omega, by go_num, ⟨_, rfl, by show _ = _; rw [HP.out.2, List.length_append, HLA.out]; rfl⟩, ⟨_, HL5.out, HP.out.1⟩, HG5.out⟩
          case measure => simp [intOf]; omega
    · obtain rfl : k = ps.length := by omega
      rw [List.take_length] at HNN
      go_wp2
      go_ret
      exact ⟨by rw [← HNN.out]; rfl, HI.out, hgr⟩
theorem pieJoined_nil (w : World) : Calls Try.prog 32 #[.slice none 0 0] w fun e w' => e = .returned (.slice none 0 0) ∧ w = w' := by
  go_enter Try.func32, Try.ntmps32
  go_wp2
  go_loopw [3, 11] (fun v i wr => i = .int .i64 0 ∧ v = .slice none 0 0 ∧ wr = w) (fun _ _ _ => 0)
  case atStart => exact ⟨rfl, rfl, rfl⟩
  case round =>
    obtain ⟨rfl, rfl, rfl⟩ := hrel
    go_wp2
    go_ret
    exact ⟨rfl, rfl⟩
/-- joined, of a row that is owned -/
theorem pieJoined_any (bs : List UInt8) (b0 : Nat) (v : Value) (ps : List PieP) (ok : OkP bs ps) (hbs : bs.length ≤ 100000) (hlen : ps.length ≤ 100000) (w : World) (h : w.ownsRow b0 73 3 v ps.length (flatP ps)) :
    Calls Try.prog 32 #[v] w fun e w' => ∃ v', e = .returned v' ∧ w'.ownsRow b0 73 3 v' (joinP ps).length (flatP (joinP ps)) ∧ w.grownBy w' v.ownBlock ∧ v'.ownBlock = v.ownBlock := by
  rcases h.2 with ⟨rfl, h0⟩ | ⟨g, cap, cur, rfl, hb, hg, hn, hm, hs, ht⟩
  · have : ps = [] := List.eq_nil_of_length_eq_zero h0
    subst this
    refine (pieJoined_nil w).mono ?_
    rintro e w' ⟨rfl, rfl⟩
    exact ⟨_, rfl, World.ownsRow_nil _ _ _ _, grown_refl _ _, rfl⟩
  · refine (pieJoined_some bs g cap cur.toList ps ok hbs hlen w (by rw [Array.toArray_toList]; exact hg) hn (by rw [Array.length_toList]; exact hs) ht).mono ?_
    rintro e w' ⟨rfl, ⟨L, hL, hJ⟩, hgr⟩
    have hf := hJ.front
    have hl := (joinP_says ok ps.length (Nat.le_refl _)).2.2.2
    rw [List.take_length] at hf hl
    exact ⟨_, rfl, ⟨flatP_len _, .inr ⟨g, cap, L.toArray, rfl, hb, hL, by omega, hm, by rw [List.size_toArray, hJ.len, Array.length_toList]; exact hs, hf⟩⟩, hgr, rfl⟩
end Go.Proofs.Ytacpfkkbjibmgaa

/-
  The landed Delete: layer 9.
-/
import Derived.Test.YtcpijnoabipefaaRgYank
import Derived.Test.YtcpijnoabipefaaTextSet
namespace Go.Proofs.Ytcpijnoabipefaa
open Go.RowKit

section
variable {P : Nat → Prop} {w : World} {g : Nat} {R : List RegP}
/-- the numbered registers are shifted -/
theorem Rgs.shift (h : Rgs w P g R) : ∃ L : List Value, Blk w g 53 L.toArray ∧ L.length = 153 ∧ (∃ cs : List Value, cs.length = 32 ∧ (∀ v ∈ cs, v.oneCell' = true) ∧ (∀ j v, cs[j]? = some v → w.cell? ((⟨g, 109, none⟩ : Addr).add j) = some v) ∧ Rgs (w.setRow g (splice L 113 cs).toArray) P g (shiftZ R)) := by
  obtain ⟨Z, h1, h2, h3⟩ := h.mem
  have hz : Z.length = 38 := by have := h.ok.len; rw [← h1, List.length_map] at this; exact this
  refine ⟨_, h2, by rw [List.length_cons, flatG_len, hz], flatG ((Z.drop 27).take 8), by rw [flatG_len]; simp; omega, flatG_cell _, ?_, okRs_shift h.ok, h.own, fun k hk => by have := h.lt k hk; simpa using this, shiftZ Z, by rw [← h1, shiftZ_map], ?_, ?_⟩
  · intro j v hj
    have hadd : (⟨g, 109, none⟩ : Addr).add j = ⟨g, 109 + j, none⟩ := by unfold Addr.add; split <;> simp_all
    rw [hadd, h2.cell]
    rw [← flatG_take, ← flatG_drop] at hj
    have hj32 : j < 32 := by
      rcases Nat.lt_or_ge j 32 with h | h
      · exact h
      · rw [List.getElem?_take, if_neg (by omega)] at hj; cases hj
    rw [List.getElem?_take, if_pos (by omega), List.getElem?_drop] at hj
    rw [show 109 + j = (108 + j) + 1 by omega]
    simpa using hj
  · rw [flatG_shift Z hz]
    exact h2.setRow _
  · have ht : ∀ cs, Tch P w (w.setRow g cs) := fun cs => (Tch.grown (grown_setRow w g _)).more (fun k e => by rw [e]; exact h.own)
    intro z hz
    exact (h3 z (shiftZ_mem hz)).tch (ht _)
end

theorem flatG_int {Z : List RegV} {j : Nat} {k : IntKind} {m : Int} : (Value.bool true :: flatG Z)[j]? ≠ some (.int k m) := by
  intro h
  rcases List.mem_cons.1 (List.mem_of_getElem? h) with h | h
  · cases h
  · unfold flatG at h
    obtain ⟨r, _, hr⟩ := List.mem_flatMap.1 h
    simp [RegV.cells] at hr
/-- runs do not lie in registers -/
theorem store_txu {P : Nat → Prop} {w : World} {g : Nat} {R : List RegP} {A : Option Addr} {S : List UInt8} {l : List RunP} (h : Txu w A S l) (hr : Rgs w P g R) {cs : Array Value} : Txu (w.setRow g cs) A S l := by
  refine ⟨h.hS, h.hf, h.hl, ?_⟩
  have hz : (w.setRow g cs).heap.size = w.heap.size := by simp
  rw [hz]
  obtain ⟨Z, _, h2, _⟩ := hr.mem
  rcases row_ints h.row with e | ⟨ad, e, hb, hc⟩
  · exact .inl e
  · refine .inr ⟨ad, e, hb, fun j u hj => ?_⟩
    obtain ⟨h1, k, m, rfl⟩ := hc j u hj
    have hne : (ad.add j).block ≠ g := by
      intro hbg
      have hh : w.heap[(ad.add j).block]? = some (.cells (.bool true :: flatG Z).toArray 53 (0, 0)) := by rw [hbg]; exact h2
      unfold World.cell? at h1
      rw [hh] at h1
      simp only [List.getElem?_toArray] at h1
      split at h1
      · cases h1
      · exact flatG_int h1
    rw [World.cell?_of_block (setRow_other w g _ cs hne)]
    exact h1

set_option maxHeartbeats 4000000 in
theorem rgDelete_any {P : Nat → Prop} {w : World} {g : Nat} {R : List RegP} (h : Rgs w P g R) (n : Int) (hn : -2147483648 ≤ n ∧ n ≤ 2147483647) (A : Option Addr) (c : Nat) (S : List UInt8) (l : List RunP) (b wide : Bool) (hx : Txu w A S l) :
    Calls Try.prog 10 #[.pointer (some ⟨g, 0, none⟩), .int .i32 n, .agg #[.string ⟨S.toArray⟩, .slice A l.length c, .bool b], .bool wide] w (GivesR w P g (deleteR R n S l b wide)) := by
  have K := Lib.hid ((boxN w #[.string ⟨S.toArray⟩, .slice A l.length c, .bool b] 33).and (((grow_txu hx).and h.grow).alloc _))
  have hP : Hid (g < w.heap.size) := h.tch
  clear h hx
  go_enter Try.func10, Try.ntmps10
  go_upto_region 1 with fail
  generalize w.alloc (.cells #[.string ⟨S.toArray⟩, .slice A l.length c, .bool b] 33) = wb at *
  obtain ⟨y0, y1, y2⟩ := en_cells K.out.now.1.1
  by_cases hu : unN n = false
  · have HR : Hid (deleteR R n S l b wide = yankR R n S l b) := if_pos hu
    go_wp2_with (first
      | (go_at_call 21; refine (rgUnnamed_any n _).mono ?_; rw [hu]; rintro e w' ⟨rfl, hw⟩; subst w')
      | (go_at_call 19; refine (rgYank_any K.out.now.2.2 n hn A c S l b K.out.now.2.1).mono ?_; rintro e w' ⟨rfl, hr, ht⟩))
    go_ret
    exact ⟨by rw [HR.out]; rfl, by rw [HR.out]; exact hr, (Tch.fresh K.out.now.1.2).trans ht⟩
  · have hu' : unN n = true := by simpa using hu
    go_upto_region 4 with (first
      | (go_at_call 21; refine (rgUnnamed_any n _).mono ?_; rw [hu']; rintro e w' ⟨rfl, hw⟩; subst w')
      | (go_at_call 22; refine (rgCheck_any K.out.now.2.2 n A c S l b K.out.now.2.1).mono ?_; rintro e w1 ⟨rfl, bb⟩; replace K := Lib.hid (K.out.step bb); clear y0 y1 y2 bb))
    obtain ⟨y0, y1, y2⟩ := en_cells K.out.now.1.1
    by_cases hc : checkR n S l = 0
    · obtain ⟨hm, hg⟩ := checkR_good hc
      rw [hc]
      by_cases hwb : wide = false ∧ b = false
      · have HR : Hid (deleteR R n S l b wide = (put2 R 36 37 ⟨true, S, l, b⟩, 0)) := (if_neg hu).trans ((if_pos hc).trans (if_pos hwb))
        obtain ⟨rfl, rfl⟩ := hwb
        clear hu hc
        go_wp2_with (go_at_call 23; refine (store_two (c := c) (b := false) K.out.now.2.2 K.out.now.2.1 hg 36 37 (by decide) (by decide)).mono ?_; rintro e w3 ⟨rfl, hr, ht⟩)
        go_ret
        exact ⟨by rw [HR.out]; rfl, by rw [HR.out]; exact hr, (Tch.fresh K.out.now.1.2).trans ht⟩
      · have HR : Hid (deleteR R n S l b wide = (put2 (shiftZ R) 27 37 ⟨true, S, l, b⟩, 0)) := (if_neg hu).trans ((if_pos hc).trans (if_neg hwb))
        clear hu hc
        rcases wide with _ | _
        · obtain rfl : b = true := by rcases b with _ | _; exact absurd ⟨rfl, rfl⟩ hwb; rfl
          clear hwb
          go_upto_region 9 with fail
          refine wp_region_still_tail 8 (by kernel_rfl) (by kernel_rfl) ?_
          simp only [List.take_succ_cons, List.take_zero, List.drop_succ_cons, List.drop_zero]
          change wpStill _ _ (World.drew w1) (fun a' => wpList _ _ _ _ a' (World.drew w1)) _ _
          have K1 : Hid (Grow w1.drew _) := Lib.hid (K.out.drewN 1)
          clear y0 y1 y2 K
          generalize w1.drew = wd at *
          repeat still_step
          refine wpStill_nil ?_
          obtain ⟨L, hL, hLn, cs, hcs, hcs1, hcell, hR⟩ := K1.out.now.2.2.shift
          have HCP := Lib.hid (run_copy_blk (P := Try.prog) 62 62 3 50 4 Try.underlying62 (by kernel_rfl) g 113 8 10 ⟨g, 109, none⟩ 8 11 L _ hL 8 rfl cs hcs hcell (by rw [hcs, hLn]; decide) hcs1)
          (with_reducible refine at_copy (.tmp 38) (.tmp 42) 62 62 ?_)
          refine wpList_copy_eq rfl (.tmp 38) (.tmp 42) 62 62 rfl _ _ rfl rfl HCP.out ?_
          have T2 := Lib.hid ((Tch.fresh K1.out.now.1.2).trans (Tch.grown (grown_setRow wd g (splice L 113 cs).toArray)) : Tch (fun k => k = g) w _)
          have HR2 := Lib.hid hR
          have hgw : g ≠ w.heap.size := by have := hP.out; omega
          have B2 := Lib.hid (K1.out.now.1.1.rowFar (g' := g) (fun e => hgw e.symm) (splice L 113 cs).toArray)
          have X2 := Lib.hid (store_txu K1.out.now.2.1 K1.out.now.2.2 (cs := (splice L 113 cs).toArray))
          clear K1 hL HCP hR hcell
          generalize wd.setRow g (splice L 113 cs).toArray = we at *
          obtain ⟨y0, y1, y2⟩ := en_cells B2.out
          go_wp2_with (go_at_call 23; refine (store_two (c := c) (b := true) HR2.out X2.out hg 27 37 (by decide) (by decide)).mono ?_; rintro e w5 ⟨rfl, hr, ht⟩)
          go_ret
          exact ⟨by rw [HR.out]; rfl, by rw [HR.out]; exact hr, T2.out.trans ht⟩
        · clear hwb
          go_upto_region 9 with fail
          refine wp_region_still_tail 8 (by kernel_rfl) (by kernel_rfl) ?_
          simp only [List.take_succ_cons, List.take_zero, List.drop_succ_cons, List.drop_zero]
          change wpStill _ _ (World.drew w1) (fun a' => wpList _ _ _ _ a' (World.drew w1)) _ _
          have K1 : Hid (Grow w1.drew _) := Lib.hid (K.out.drewN 1)
          clear y0 y1 y2 K
          generalize w1.drew = wd at *
          repeat still_step
          refine wpStill_nil ?_
          obtain ⟨L, hL, hLn, cs, hcs, hcs1, hcell, hR⟩ := K1.out.now.2.2.shift
          have HCP := Lib.hid (run_copy_blk (P := Try.prog) 62 62 3 50 4 Try.underlying62 (by kernel_rfl) g 113 8 10 ⟨g, 109, none⟩ 8 11 L _ hL 8 rfl cs hcs hcell (by rw [hcs, hLn]; decide) hcs1)
          (with_reducible refine at_copy (.tmp 38) (.tmp 42) 62 62 ?_)
          refine wpList_copy_eq rfl (.tmp 38) (.tmp 42) 62 62 rfl _ _ rfl rfl HCP.out ?_
          have T2 := Lib.hid ((Tch.fresh K1.out.now.1.2).trans (Tch.grown (grown_setRow wd g (splice L 113 cs).toArray)) : Tch (fun k => k = g) w _)
          have HR2 := Lib.hid hR
          have hgw : g ≠ w.heap.size := by have := hP.out; omega
          have B2 := Lib.hid (K1.out.now.1.1.rowFar (g' := g) (fun e => hgw e.symm) (splice L 113 cs).toArray)
          have X2 := Lib.hid (store_txu K1.out.now.2.1 K1.out.now.2.2 (cs := (splice L 113 cs).toArray))
          clear K1 hL HCP hR hcell
          generalize wd.setRow g (splice L 113 cs).toArray = we at *
          obtain ⟨y0, y1, y2⟩ := en_cells B2.out
          go_wp2_with (go_at_call 23; refine (store_two (c := c) (b := b) HR2.out X2.out hg 27 37 (by decide) (by decide)).mono ?_; rintro e w5 ⟨rfl, hr, ht⟩)
          go_ret
          exact ⟨by rw [HR.out]; rfl, by rw [HR.out]; exact hr, T2.out.trans ht⟩
    · have HR : Hid (deleteR R n S l b wide = (R, 2)) := (if_neg hu).trans (if_neg hc)
      have h2 : checkR n S l = 2 := by
        unfold checkR at hc ⊢
        split at hc
        · exact absurd rfl hc
        · next h => rw [if_neg h]
      rw [h2]
      clear hc h2 hu
      go_wp2_with fail
      go_ret
      exact ⟨by rw [HR.out]; rfl, by rw [HR.out]; exact K.out.now.2.2, Tch.fresh K.out.now.1.2⟩
end Go.Proofs.Ytcpijnoabipefaa

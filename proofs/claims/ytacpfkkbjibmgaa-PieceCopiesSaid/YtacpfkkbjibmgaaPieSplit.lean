/-
  The landed store: split: layer 5.
-/
import Derived.Test.YtacpfkkbjibmgaaPieKeep
namespace Go.Proofs.Ytacpfkkbjibmgaa
open Go.RowKit

theorem flatP_set (ps : List PieP) (k : Nat) (hk : k < ps.length) (m : Nat) : (flatP ps).set (k * 3 + 1) (.int .i64 (m : Nat)) = flatP (ps.set k (ps[k].1, m, ps[k].2.2)) := by
  induction ps generalizing k with
  | nil => simp at hk
  | cons p ps ih =>
    cases k with
    | zero => simp [flatP]
    | succ k =>
      have := ih k (by simpa using hk)
      simp only [flatP, List.flatMap_cons, List.set_cons_succ, List.getElem_cons_succ] at *
      rw [List.set_append, if_neg (by simp; omega)]
      simp only [List.length_cons, List.length_nil]
      rw [show (k + 1) * 3 + 1 - (0 + 1 + 1 + 1) = k * 3 + 1 by omega, this]
theorem cutP_set (ps : List PieP) (k m : Nat) (hk : k < ps.length) : (ps.set k (ps[k].1, m, ps[k].2.2)).take (k + 1) ++ [(ps[k].1 + m, ps[k].2.1 - m, ps[k].2.2)] ++ (ps.set k (ps[k].1, m, ps[k].2.2)).drop (k + 1) = cutP ps k m ps[k] := by
  unfold cutP
  rw [List.drop_set_of_lt (by omega), List.take_succ_eq_append_getElem (by simpa using hk), List.take_set_of_le (Nat.le_refl k)]
  simp

/-- what split leaves -/
structure SplitP (bs : List UInt8) (ps : List PieP) (a : Nat) (g : Nat) (mk m vb vp : Value) (w : World) (i : Nat) (w' : World) : Prop where
  ex : ∃ vp' qs, Splits bs ps a qs i ∧ Blk w' g 54 #[mk, m, vb, vp'] ∧ w'.ownsRow 0 73 3 vp' qs.length (flatP qs) ∧ NewOr w vp vp' ∧ qs.length ≤ ps.length + 1 ∧ Chg (fun k => k = g ∨ vp.ownBlock = some k) w w'

/-- a row of one element that was just made -/
theorem own_made {w : World} {T size : Nat} {us : List Value} (hl : us.length = size) : (w.alloc (.cells us.toArray T)).ownsRow 0 T size (.slice (some ⟨w.heap.size, 0, none⟩) 1 1) 1 us :=
  ⟨by rw [hl, Nat.one_mul], .inr ⟨w.heap.size, 1, us.toArray, rfl, Nat.zero_le _, heap_alloc_new w _, Nat.le_refl _, by unfold maxLen; omega, by rw [List.size_toArray, hl, Nat.one_mul], by rw [Nat.one_mul, ← hl, List.take_length]⟩⟩

/-- a piece is inserted, and the store's list with it -/
theorem split_insert (g gp : Nat) (ad : Addr) (had : (⟨gp, 0, none⟩ : Addr) = ad) (hgpg : gp ≠ g) (mk m vb : Value) (n c k : Nat) (ps : List PieP) (p : PieP) (w : World) (hn : ps.length = n) (hlen : n ≤ 90000) (hk : k + 1 ≤ n)
    (hg : Blk w g 54 #[mk, m, vb, .slice (some ad) n c]) (hp : w.ownsRow 0 73 3 (.slice (some ad) n c) ps.length (flatP ps)) :
    Calls Try.prog 40 #[.slice (some ad) n c, .int .i64 ((k : Int) + 1), .slice (some ⟨w.heap.size, 0, none⟩) 1 1] (w.alloc (.cells #[.int .i64 (p.1 : Nat), .int .i64 (p.2.1 : Nat), .int .u64 (p.2.2 : Nat)] 73)).drew fun e w5 =>
      ∃ A5 c5 n5, e = .returned (.slice A5 n5 c5) ∧ w5.cell? ⟨g, 3, none⟩ = some (.slice (some ad) n c) ∧ w5.frozen? ⟨g, 3, none⟩ = false ∧
        (Blk (w5.setCell ⟨g, 3, none⟩ (.slice A5 n5 c5)) g 54 #[mk, m, vb, .slice A5 n5 c5] ∧
          (w5.setCell ⟨g, 3, none⟩ (.slice A5 n5 c5)).ownsRow 0 73 3 (.slice A5 n5 c5) (ps.take (k + 1) ++ [p] ++ ps.drop (k + 1)).length (flatP (ps.take (k + 1) ++ [p] ++ ps.drop (k + 1))) ∧
          (∀ q, (Value.slice A5 n5 c5).ownBlock = some q → q = gp ∨ w.heap.size ≤ q) ∧ Chg (fun q => q = g ∨ q = gp) w (w5.setCell ⟨g, 3, none⟩ (.slice A5 n5 c5))) := by
  subst had
  have hgl := hg.lt
  have hc1 : Chg (fun _ => False) w ((w.alloc (.cells #[.int .i64 (p.1 : Nat), .int .i64 (p.2.1 : Nat), .int .u64 (p.2.2 : Nat)] 73)).drewN 1) := ((Chg.refl _ w).alloc _).drewN 1
  have h1 := own_chg hp hc1 (fun _ _ h => h)
  have h2 : ((w.alloc (.cells #[.int .i64 (p.1 : Nat), .int .i64 (p.2.1 : Nat), .int .u64 (p.2.2 : Nat)] 73)).drewN 1).ownsRow 0 73 3 (.slice (some ⟨w.heap.size, 0, none⟩) 1 1) [p].length (flatP [p]) := own_keep (own_made (us := flatP [p]) (by rw [flatP_len]; rfl)) (below_drewN (Below.refl _ _) 1) (Nat.le_refl _)
  have hgpl : gp < w.heap.size := (hp.lt gp rfl).2
  have hG1 := hg.chg hc1 (fun h => h)
  refine (pieInsert_pies 0 0 (k + 1) (.slice (some ⟨gp, 0, none⟩) n c) (.slice (some ⟨w.heap.size, 0, none⟩) 1 1) ps [p] _ h1 h2 (fun q hq e => by simp [Value.ownBlock] at hq e; omega) (Nat.zero_le _) (by omega) (by omega) (by simp)).mono ?_
  rintro e w5 ⟨v5, rfl, i1, i2, i3⟩
  obtain ⟨A5, c5, rfl⟩ := own_form i1
  have hG5 : Blk w5 g 54 #[mk, m, vb, .slice (some ⟨gp, 0, none⟩) n c] := blk_grown hG1 i2 (by simp [Value.ownBlock]; exact hgpg)
  have hC5 : Chg (fun q => q = g ∨ q = gp) w w5 := (hc1.more fun _ _ h => h.elim).trans (Chg.of_grown i2 (fun q hq => by simp [Value.ownBlock] at hq; exact .inr hq.symm))
  have hnew : ∀ q, (Value.slice A5 (ps.take (k + 1) ++ [p] ++ ps.drop (k + 1)).length c5).ownBlock = some q → q = gp ∨ w.heap.size ≤ q := fun q hq => (i3 q hq).imp (fun h => by simp [Value.ownBlock] at h; exact h.symm) (fun h => by have := hc1.size; omega)
  refine ⟨A5, c5, _, rfl, (sto_cells hG5).2.2.2, hG5.frozen 3, ?_, ?_, hnew, hC5.setCell (p := ⟨g, 3, none⟩) (fun _ => .inl rfl) _⟩
  · have := hG5.set_ 3 (.slice A5 (ps.take (k + 1) ++ [p] ++ ps.drop (k + 1)).length c5)
    simpa using this
  · refine own_setOther i1 (p := ⟨g, 3, none⟩) (fun q hq e => ?_) _
    rcases hnew q hq with h | h
    · exact hgpg (h.symm.trans e)
    · have : q = g := e
      omega

set_option maxHeartbeats 4000000 in
theorem pieSplit_any (g : Nat) (mk m vb vp : Value) (bs : List UInt8) (ps : List PieP) (a : Nat) (w : World) (hg : Blk w g 54 #[mk, m, vb, vp]) (hp : w.ownsRow 0 73 3 vp ps.length (flatP ps)) (ok : OkP bs ps) (hbs : bs.length ≤ 100000) (hlen : ps.length ≤ 90000) (hmax : lenP ps ≤ 4096) (ha : a ≤ lenP ps) :
    Calls Try.prog 31 #[.pointer (some ⟨g, 0, none⟩), .int .i64 (a : Nat)] w fun e w' => ∃ i, e = .returned (.int .i64 (i : Nat)) ∧ SplitP bs ps a g mk m vb vp w i w' := by
  have HG := Lib.hid hg
  have HP := Lib.hid hp
  have HOK := Lib.hid ok
  have hgl := hg.lt
  obtain ⟨A, c, hv⟩ := own_form hp
  have x3 : w.cell? ⟨g, 3, none⟩ = some (.slice A ps.length c) := by
    have := (sto_cells hg).2.2.2
    rw [hv] at this
    exact this
  have HV := Lib.hid hv
  have HROW : Hid (Row w w.heap.size A (flatP ps)) := by
    have := hp
    rw [hv] at this
    exact Row.of_own this
  have hcap : ps.length ≤ c := by rw [hv] at hp; exact own_cap hp
  clear hg hp ok hv
  go_enter Try.func31, Try.ntmps31
  go_wp2
  go_loopw [5, 14] (fun s i wr => ∃ k : Nat, k ≤ ps.length ∧ i = .int .i64 k ∧ s = .int .i64 (lenP (ps.take k) : Nat) ∧ lenP (ps.take k) ≤ a ∧ Below w.heap.size w wr) (fun _ i _ => ps.length - (intOf i).toNat)
  case atStart => exact ⟨0, Nat.zero_le _, rfl, rfl, Nat.zero_le _, Below.refl _ _⟩
  case round =>
    obtain ⟨k, hk, rfl, rfl, hsa, hb⟩ := hrel
    have z := hb.size
    have x3r : wr.cell? ⟨g, 3, none⟩ = some (.slice A ps.length c) := by rw [← x3]; exact hb.cell (p := ⟨g, 3, none⟩) hgl
    have hm1 := lenP_take_bound hmax k
    by_cases hlt : k < ps.length
    · have hs1 := lenP_succ (ps := ps) k hlt
      have HGR := Lib.hid (HG.out.below hb hgl)
      have HPR := Lib.hid (own_keep HP.out hb (Nat.le_refl _))
      obtain ⟨gp, hAg, hgp⟩ : ∃ gp, A = some ⟨gp, 0, none⟩ ∧ gp < w.heap.size := by
        have h := HP.out
        rw [HV.out] at h
        obtain ⟨g1, c1, h1, _, h2⟩ := own_at h (by omega)
        injection h1 with h1
        exact ⟨g1, h1, h2⟩
      have hgpg : gp ≠ g := fun e => by
        have h := HP.out
        rw [HV.out, hAg] at h
        rcases h.2 with ⟨h, _⟩ | ⟨g1, c1, cur, h, _, hh, _⟩
        · simp at h
        · simp at h
          have h2 := HG.out
          unfold Blk at h2
          rw [← e, h.1, hh] at h2
          injection h2 with h2
          injection h2 with _ h2
          revert h2; decide
      obtain ⟨ad, rfl, hbl, c0, c1, c2⟩ := pie_cells (HROW.out.below hb) hlt
      have HAD : Hid ((⟨gp, 0, none⟩ : Addr) = ad) := by injection hAg with h; exact h.symm
      clear hAg
      have hok := HOK.out ps[k] (List.getElem_mem hlt)
      have HNONE : Hid (lenP (ps.take k) = a → Splits bs ps a ps k) := fun e => by subst e; exact splits_none HOK.out hk
      have HCUT : Hid (∀ q, lenP (ps.take k) + q = a → 0 < q → q < ps[k].2.1 → Splits bs ps a (cutP ps k q ps[k]) (k + 1)) := fun q e h0 h1 => by subst e; exact splits_cut HOK.out hlt h0 h1
      have HSET : Hid (∀ q, (flatP ps).set (k * 3 + 1) (.int .i64 (q : Nat)) = flatP (ps.set k (ps[k].1, q, ps[k].2.2))) := fun q => flatP_set ps k hlt q
      have HCSET : Hid (∀ q, (ps.set k (ps[k].1, q, ps[k].2.2)).take (k + 1) ++ [(ps[k].1 + q, ps[k].2.1 - q, ps[k].2.2)] ++ (ps.set k (ps[k].1, q, ps[k].2.2)).drop (k + 1) = cutP ps k q ps[k]) := fun q => cutP_set ps k q hlt
      generalize ps[k] = r at *
      obtain ⟨x, n, l⟩ := r
      dsimp only at *
      have HS := Lib.hid hs1
      have hn : n ≤ 4096 := by have := lenP_take_bound hmax (k + 1); omega
      clear hs1
      by_cases hle : a ≤ lenP (ps.take k)
      · have hN := Lib.hid (HNONE.out (by omega))
        have hlen0 : lenP (ps.take k) = a := by omega
        have HL0 := Lib.hid hlen0
        clear hlen0
        go_wp2
        go_ret
        refine ⟨k, rfl, ⟨vp, ps, hN.out, (HGR.out.alloc _), own_keep HPR.out ((Below.refl _ wr).alloc (Nat.le_refl _) _) (Nat.le_refl _), fun k h => .inl h, by omega, Chg.of_fresh (hb.alloc z _)⟩⟩
      · have hw1 := wrap_small ((a : Int) - (lenP (ps.take k) : Int)) (by omega) (by omega)
        by_cases hcut : (a : Int) - (lenP (ps.take k) : Int) < (n : Int)
        · obtain ⟨q, hq⟩ : ∃ q, lenP (ps.take k) + q = a := ⟨a - lenP (ps.take k), by omega⟩
          have hN := Lib.hid (HCUT.out q hq (by omega) (by omega))
          have hq1 : (a : Int) - (lenP (ps.take k) : Int) = (q : Int) := by omega
          have hqn : q < n := by omega
          have HQ := Lib.hid hq
          rw [hq1] at hw1
          have PB : Hid (Blk (wr.alloc (.cells #[.int .i64 (x : Nat), .int .i64 (n : Nat), .int .u64 (l : Nat)] 73)) wr.heap.size 73 #[.int .i64 (x : Nat), .int .i64 (n : Nat), .int .u64 (l : Nat)]) := Blk.new _ _ _
          have GB := Lib.hid (HGR.out.alloc (.cells #[.int .i64 (x : Nat), .int .i64 (n : Nat), .int .u64 (l : Nat)] 73))
          have OB := Lib.hid (own_keep HPR.out ((Below.refl _ wr).alloc (Nat.le_refl _) (.cells #[.int .i64 (x : Nat), .int .i64 (n : Nat), .int .u64 (l : Nat)] 73)) (Nat.le_refl _))
          have BB := Lib.hid (hb.alloc z (.cells #[.int .i64 (x : Nat), .int .i64 (n : Nat), .int .u64 (l : Nat)] 73))
          have hgpr : gp < wr.heap.size := by omega
          clear hcut HNONE HCUT hq
          go_upto_region 5 with (fail)
          generalize wr.alloc (.cells #[.int .i64 (x : Nat), .int .i64 (n : Nat), .int .u64 (l : Nat)] 73) = wb at *
          have OB2 : Hid (wb.ownsRow 0 73 3 (.slice (some ad) ps.length c) ps.length (flatP ps)) := by have := OB.out; rw [HV.out] at this; exact this
          have GB2 : Hid (Blk wb g 54 #[mk, m, vb, .slice (some ad) ps.length c]) := by have := GB.out; rw [HV.out] at this; exact this
          clear c0 c1 c2 x3r
          obtain ⟨y0, y1, y2⟩ := blk_three PB.out
          have x3r := (sto_cells GB2.out).2.2.2
          obtain ⟨ad', e', _, d0, d1, d2⟩ := pie_cells (Row.of_own OB2.out) hlt
          cases e'
          have fz : wb.frozen? ⟨(ad.add (k * 3)).block, (ad.add (k * 3)).off + 1, none⟩ = false := by
            have h := OB2.out
            rw [← HAD.out] at h ⊢
            rw [base_add]
            exact own_frozen h (k * 3 + 1)
          clear d0 d2
          generalize hp1 : (ps[k]'hlt).2.1 = vn at d1
          clear hp1
          go_upto_region 10 with (fail)
          clear x3r fz d1 y0 y1 y2
          have hlS : (ps.set k (x, q, l)).length = ps.length := List.length_set
          have OS : Hid ((wb.setCell ⟨(ad.add (k * 3)).block, (ad.add (k * 3)).off + 1, none⟩ (.int .i64 (q : Nat))).ownsRow 0 73 3 (.slice (some ad) ps.length c) (ps.set k (x, q, l)).length (flatP (ps.set k (x, q, l)))) := by
            have h := OB2.out
            rw [hlS, ← HSET.out]
            rw [← HAD.out] at h ⊢
            rw [base_add]
            exact own_set h _ _
          have HBK : Hid ((ad.add (k * 3)).block = gp) := by show _ = _; rw [← HAD.out, base_add]
          have GS : Hid (Blk (wb.setCell ⟨(ad.add (k * 3)).block, (ad.add (k * 3)).off + 1, none⟩ (.int .i64 (q : Nat))) g 54 #[mk, m, vb, .slice (some ad) ps.length c]) := GB2.out.far (by show g ≠ (ad.add (k * 3)).block; rw [HBK.out]; exact fun e => hgpg e.symm) _
          have PS : Hid (Blk (wb.setCell ⟨(ad.add (k * 3)).block, (ad.add (k * 3)).off + 1, none⟩ (.int .i64 (q : Nat))) wr.heap.size 73 #[.int .i64 (x : Nat), .int .i64 (n : Nat), .int .u64 (l : Nat)]) := PB.out.far (by show wr.heap.size ≠ (ad.add (k * 3)).block; rw [HBK.out]; omega) _
          have CS : Hid (Chg (fun k => k = g ∨ k = gp) w (wb.setCell ⟨(ad.add (k * 3)).block, (ad.add (k * 3)).off + 1, none⟩ (.int .i64 (q : Nat)))) := (Chg.of_fresh BB.out).setCell (p := ⟨(ad.add (k * 3)).block, (ad.add (k * 3)).off + 1, none⟩) (fun _ => .inr HBK.out) _
          generalize wb.setCell ⟨(ad.add (k * 3)).block, (ad.add (k * 3)).off + 1, none⟩ (.int .i64 (q : Nat)) = wS at *
          have INS := Lib.hid (split_insert g gp ad HAD.out hgpg mk m vb ps.length c k (ps.set k (x, q, l)) (x + q, n - q, l) wS hlS hlen (by omega) GS.out OS.out)
          have e1 : ((x + q : Nat) : Int) = (x : Int) + (q : Int) := by omega
          have e2 : ((n - q : Nat) : Int) = (n : Int) - (q : Int) := by omega
          rw [HCSET.out] at INS
          dsimp only at INS
          rw [e1, e2] at INS
          have HLC : Hid ((cutP ps k q (x, n, l)).length = ps.length + 1) := cutP_len hlt _
          clear e1 e2 hlS GB2 OB2 PB GB OB OS
          obtain ⟨y0, y1, y2⟩ := blk_three PS.out
          have x3r := (sto_cells GS.out).2.2.2
          have hgS : g < wS.heap.size := GS.out.lt
          have hrS : wr.heap.size < wS.heap.size := PS.out.lt
          have w1 := wrap_small ((k : Int) + 1) (by omega) (by omega)
          have w2 := wrap_small ((x : Int) + (q : Int)) (by omega) (by omega)
          have w3 := wrap_small ((n : Int) - (q : Int)) (by omega) (by omega)
          clear GS
          have hrg : wr.heap.size ≠ g := by have := HGR.out.lt; omega
          clear PS HSET HCSET HS HQ HGR HPR HROW HOK HP HG hle hqn hq1 hw1 hsa hm1 hn hok hbl z hb hk hgpr hgp HBK BB hgpg x3 hgl hcap hmax hbs
          go_region_law (first
            | (go_simp; go_at_call 40; refine INS.out.mono ?_; rintro e w5 ⟨A5, c5, n5, rfl, i1, i2, i3⟩; have I3 := Lib.hid i3; clear i3))
          all_goals
            go_wp2
            go_ret
            refine ⟨k + 1, by rfl, ⟨_, cutP ps k q (x, n, l), hN.out, I3.out.1, I3.out.2.1, fun q' hq' => ?_, by rw [HLC.out]; exact Nat.le_refl _, ?_⟩⟩
            · rcases I3.out.2.2.1 q' hq' with h | h
              · left
                rw [HV.out, ← HAD.out, h]; rfl
              · right
                have := CS.out.size
                omega
            · exact (CS.out.trans I3.out.2.2.2).more fun q' _ h => h.imp id (fun h => by rw [HV.out, ← HAD.out, h]; rfl)
        · have hw2 := wrap_small ((lenP (ps.take k) : Int) + (n : Int)) (by omega) (by omega)
          go_wp2
          go_roundw
          case rel => exact ⟨k + 1, by omega, by go_num, by rw [HS.out]; rfl, by rw [HS.out]; omega, hb.alloc z _⟩
          case measure => simp [intOf]; omega
    · obtain rfl : k = ps.length := by omega
      have hN := splits_none HOK.out (Nat.le_refl ps.length)
      rw [List.take_length] at hN hsa
      have hla : lenP ps = a := by omega
      rw [hla] at hN
      clear hla
      go_wp2
      go_ret
      exact ⟨ps.length, rfl, ⟨vp, ps, hN, HG.out.below hb hgl, own_keep HP.out hb (Nat.le_refl _), fun k h => .inl h, by omega, Chg.of_fresh hb⟩⟩
end Go.Proofs.Ytacpfkkbjibmgaa

/-
  The landed forget: layer 8.
-/
import Derived.Test.YtfeaffabminpfaaHiKeep
import Derived.Test.YtfeaffabminpfaaHiUndo
namespace Go.Proofs.Ytfeaffabminpfaa
open Go.RowKit

theorem own_tch {P : Nat → Prop} {w w' : World} {base e size n : Nat} {v : Value} {xs : List Value} (h : w.ownsRow base e size v n xs) (hc : Tch P w w') (hv : ∀ g, base ≤ g → ¬ P g) : w'.ownsRow base e size v n xs := by
  refine ⟨h.1, ?_⟩
  rcases h.2 with hn | ⟨g, cap, cur, rfl, hb, hgg, rest⟩
  · exact .inl hn
  · exact .inr ⟨g, cap, cur, rfl, hb, (hc.block g (Array.getElem?_eq_some_iff.1 hgg).1 (hv g hb)).trans hgg, rest⟩
/-- numbers in a row of their own -/
theorem ints_at {w : World} {base c : Nat} {A : Option Addr} {p : List Int} {n : Nat} (h : w.ownsRow base 3 1 (.slice A n c) n (p.map intz)) (h0 : 0 < n) : ∃ g, A = some ⟨g, 0, none⟩ ∧ ∀ (k : Nat) (hk : k < p.length), w.cell? ⟨g, k, none⟩ = some (.int .i64 p[k]) := by
  obtain ⟨g, _, hA, _, _⟩ := own_at h h0
  have hA := (Value.slice.inj hA).1
  subst hA
  refine ⟨g, rfl, fun k hk => ?_⟩
  obtain ⟨ad, e, hc⟩ := int_cell (k := k) h hk
  injection e with e
  subst e
  have : Addr.add ⟨g, 0, none⟩ k = ⟨g, k, none⟩ := by unfold Addr.add; split <;> simp_all
  rw [this] at hc
  exact hc
/-- a state that has no parent any more -/
theorem tx_zero (w : World) (P : Nat → Prop) : TxO w P none [] [] := ⟨Nat.zero_le _, by intro x hx; simp at hx, Nat.zero_le _, .inl rfl⟩

set_option maxRecDepth 100000 in
set_option maxHeartbeats 8000000 in
theorem hiForget_any {w : World} {p b : Nat} {G : List StP} {dep now last dx : Int} (h : Hst w p b G dep now last) (inv : InvS G now last dx) (hl : last ≤ 1000000) {r0 p1 : Int} {rest : List Int} (hpath : pathS G now = r0 :: p1 :: rest) :
    Calls Try.prog 38 #[.pointer (some ⟨p, 0, none⟩)] w fun e w' => e = .returned (.tuple #[]) ∧ Hst w' p b (forgS G p1) dep now last ∧ Tch (fun k => k = b) w w' := by
  have HI := Lib.hid inv
  have HH := Lib.hid h
  have hlen := inv.small
  have HP := Lib.hid hpath
  have hwp := h.blk.lt
  have hwb := h.map.lt
  clear h inv hpath
  have PA : Hid (Calls Try.prog 23 #[.pointer (some ⟨p, 0, none⟩)] w (GivesI w (r0 :: p1 :: rest))) := by
    show Calls _ _ _ _ _
    rw [← HP.out]
    exact hiPath_any HH.out HI.out hl
  go_enter Try.func38, Try.ntmps38
  go_wp2_with (first
    | (go_at_call 23; refine PA.out.mono ?_; rintro e w1 ⟨A1, c1, rfl, own1, b1⟩; obtain ⟨g1, rfl, hc1⟩ := ints_at own1 (by simp); have d1 : w1.cell? ⟨g1, 1, none⟩ = some (.int .i64 p1) := hc1 1 (by simp); clear hc1 own1)
    | (go_at_call 21; refine (hiStates_any (HH.out.fresh b1) (by omega) HI.out.hup).mono ?_; rintro e w2 ⟨A2, c2, rfl, own2, b2⟩))
  have O2 := Lib.hid own2
  have W2 := Lib.hid (b1.trans (b2.mono b1.size))
  have H2 := Lib.hid (HH.out.fresh W2.out)
  have z1 := b1.size
  have z2 := b2.size
  clear own2 b1 b2 d1
  go_loopw [14] (fun i wr => ∃ k : Nat, k ≤ G.length ∧ i = .int .i64 k ∧ MapS wr b (keepR G p1 k) ∧ Tch (fun j => j = b) w2 wr) (fun i _ => G.length - (intOf i).toNat)
  case atStart => exact ⟨0, Nat.zero_le _, rfl, H2.out.map, Tch.refl _ _⟩
  case round =>
    obtain ⟨k, hk, rfl, hm, ht⟩ := hrel
    have HM := Lib.hid hm
    have HT := Lib.hid ht
    have BK := Lib.hid (H2.out.blk.tch ht (fun e => H2.out.ne e.symm))
    clear hm ht
    by_cases hlt : k < G.length
    · obtain ⟨g2, hA2, hcell⟩ := ints_at (own_tch O2.out HT.out (fun g hg e => by omega)) (by simp; omega)
      have hck := hcell k (by simpa using hlt)
      rw [List.getElem_map] at hck
      have hfind := keepR_find HI.out.hup (n := p1) hlt
      have hx : G[k] ∈ G := List.getElem_mem hlt
      have hlow := HI.out.hlow _ hx
      have hupk : -1 ≤ G[k].up ∧ G[k].up < G[k].n := by rcases HI.out.kid hx with e | ⟨h0, h1, _⟩ <;> omega
      have hpar := keepR_par HI.out.hup (n := p1) hlt hupk.2
      have hstay := keepR_stay (n := p1) hlt
      have hgo := keepR_go HI.out.hup (n := p1) hlt
      clear hcell hx
      generalize G[k] = x at *
      obtain ⟨n1, up, ⟨a, S, A1, l, c, X, B1, m, d⟩⟩ := x
      obtain ⟨r, hr⟩ : ∃ r, findS (keepR G p1 k) up = r := ⟨_, rfl⟩
      dsimp only at hfind hlow hupk hpar hstay hgo hck
      rw [hr] at hpar
      obtain ⟨⟨n7, up7, ⟨a7, S7, A7, l7, c7, X7, B7, m7, d7⟩⟩, is⟩ := r
      dsimp only at hpar
      have HF := Lib.hid hfind
      have HR := Lib.hid hr
      have HPR := Lib.hid hpar
      have HST := Lib.hid hstay
      have HGO := Lib.hid hgo
      clear hfind hr hpar hstay hgo
      have K := Lib.hid ((grow_blk BK.out).and (fun (w' : World) (hb : Below wr.heap.size wr w') => HM.out.fresh hb))
      obtain ⟨y0, y1, y2, y3⟩ := hi_cells K.out.now.1
      have hbn : -1 ≤ n1 ∧ n1 ≤ 1000000 := by omega
      have hbu : -1 ≤ up ∧ up ≤ 1000000 := by omega
      have hp1 := (K.out.drew1).now.2.at hbn HF.out
      have hp2 := ((K.out.alloc (.cells #[.int .i64 0, .int .i64 0, .string ⟨#[]⟩, .slice none 0 0, .string ⟨#[]⟩, .slice none 0 0] 74)).drew1).now.2.at hbn HF.out
      have hp3 := ((K.out.drew1).alloc (.cells #[.int .i64 0, .int .i64 0, .string ⟨#[]⟩, .slice none 0 0, .string ⟨#[]⟩, .slice none 0 0] 74)).now.2.at hbn HF.out
      have hq1 := (K.out.drew1).now.2.at_ok hbu HR.out
      have hq2 := ((K.out.alloc (.cells #[.int .i64 0, .int .i64 0, .string ⟨#[]⟩, .slice none 0 0, .string ⟨#[]⟩, .slice none 0 0] 74)).drew1).now.2.at_ok hbu HR.out
      have hq3 := ((K.out.drew1).alloc (.cells #[.int .i64 0, .int .i64 0, .string ⟨#[]⟩, .slice none 0 0, .string ⟨#[]⟩, .slice none 0 0] 74)).now.2.at_ok hbu HR.out
      obtain ⟨x0, x1, x2, x3⟩ := hi_cells ((K.out.alloc (.cells #[.int .i64 0, .int .i64 0, .string ⟨#[]⟩, .slice none 0 0, .string ⟨#[]⟩, .slice none 0 0] 74)).drew1).now.1
      obtain ⟨w0, w1', w2', w3⟩ := hi_cells ((K.out.drew1).alloc (.cells #[.int .i64 0, .int .i64 0, .string ⟨#[]⟩, .slice none 0 0, .string ⟨#[]⟩, .slice none 0 0] 74)).now.1
      have qf := field_up up a ⟨S.toArray⟩ ⟨X.toArray⟩ A1 B1 l.length c m.length d
      subst hA2
      clear hlow hupk
      go_upto_region 4 with fail
      go_region
      all_goals
        have KD := Lib.hid (K.out.alloc (.cells #[.int .i64 up7, .int .i64 a7, .string ⟨S7.toArray⟩, .slice A7 l7.length c7, .string ⟨X7.toArray⟩, .slice B7 m7.length d7] 74)).drew1
        have TD := Lib.hid (HT.out.trans (Tch.fresh (P := fun j => j = b) (belowE_dr ((Below.refl _ wr).alloc (Nat.le_refl _) (.cells #[.int .i64 up7, .int .i64 a7, .string ⟨S7.toArray⟩, .slice A7 l7.length c7, .string ⟨X7.toArray⟩, .slice B7 m7.length d7] 74)))))
        clear hp1 hp2 hp3 hq1 hq2 hq3 x0 x1 x2 x3 w0 w1' w2' w3 y0 y1 y2 y3 hck qf K HT HM BK
        generalize (wr.alloc (.cells #[.int .i64 up7, .int .i64 a7, .string ⟨S7.toArray⟩, .slice A7 l7.length c7, .string ⟨X7.toArray⟩, .slice B7 m7.length d7] 74)).drew = wd at *
        obtain ⟨y0, y1, y2, y3⟩ := hi_cells KD.out.now.1
        by_cases hc : n1 = p1
        · have t1 : (n1 != p1) = false := by rw [bne_eq_false_iff_eq]; exact hc
          have HC := Lib.hid (HST.out (Or.inl hc))
          clear hc
          go_wp2
          go_roundw
          case rel => exact ⟨k + 1, by omega, by go_num, by rw [HC.out]; exact KD.out.now.2, TD.out⟩
          case measure => simp [intOf]; omega
        · have t1 : (n1 != p1) = true := by rw [bne_iff_ne]; exact hc
          cases is
          · have HC := Lib.hid (HGO.out (fun h => h.elim hc (fun h2 => by have := HPR.out.2 h2; cases this)))
            clear hc
            go_wp2_with (at_delete; refine wpList_delete_own _ rfl _ _ 65 3 rfl 74 key_law Try.underlying65 rawV b _ _ rfl KD.out.now.2 (.int .i64 n1) (.int .i64 n1) rfl (key_of hbn) ?_; intro w6 hown6 hturn6)
            go_roundw
            case rel => exact ⟨k + 1, by omega, by go_num, mapS_of (by rw [← HC.out, ← dataS_del]; exact hown6), TD.out.trans (Tch.grown hturn6.grown)⟩
            case measure => simp [intOf]; omega
          · have HC := Lib.hid (HST.out (Or.inr (HPR.out.1 rfl)))
            clear hc
            go_wp2
            go_roundw
            case rel => exact ⟨k + 1, by omega, by go_num, by rw [HC.out]; exact KD.out.now.2, TD.out⟩
            case measure => simp [intOf]; omega
    · obtain rfl : k = G.length := by omega
      have hp1 : 0 ≤ p1 ∧ p1 ≤ 1000000 := by
        obtain ⟨s, hs, e⟩ := HI.out.path_mem p1 (by rw [HP.out]; simp)
        have := HI.out.hlow s hs
        omega
      have HM2 : Hid (MapS wr b (keepS G p1)) := by show MapS _ _ _; rw [← keepR_len]; exact HM.out
      have hks : (keepS G p1).length ≤ 66 := by have := (keep_sub G p1).length_le; omega
      obtain ⟨y0, y1, y2, y3⟩ := hi_cells BK.out
      go_wp2_with (at_mapUpdate; refine wpList_mapUpdate_own _ rfl _ _ _ 65 rfl 3 74 key_law Try.underlying65 rawV b _ _ rfl HM2.out (by unfold maxLen; omega) (.int .i64 p1) (StP.mk p1 (-1) zeroE).val (.int .i64 p1) rfl rfl (key_of (by omega)) (.held (StP.mk p1 (-1) zeroE).val) [] rfl ?_; intro w6 hown6 hg6)
      go_end0
      have hput := dataS_put_old (List.Pairwise.sublist (keep_sub G p1) HI.out.hup) (s := StP.mk p1 (-1) zeroE) (keep_has (HI.out.path_mem p1 (by rw [HP.out]; simp)))
      have hm6 : MapS w6 b (forgS G p1) := by
        rw [← keep_below]
        refine mapS_of (n := (keepS G p1).length + 1) ?_
        have e : dataS ((keepS G p1).map (zfix p1)) = (dataS (keepS G p1)).put (.int .i64 p1) (.held (StP.mk p1 (-1) zeroE).val) := hput.symm
        rw [e]
        exact hown6
      have hT : Tch (fun j => j = b) w w6 := ((Tch.fresh W2.out).trans HT.out).trans (Tch.grown hg6)
      refine ⟨rfl, ⟨BK.out.tch (Tch.grown hg6) (fun e => H2.out.ne e.symm), hm6, fun s hs => ?_⟩, hT⟩
      rw [← keep_below] at hs
      obtain ⟨x, hx, rfl⟩ := List.mem_map.1 hs
      unfold zfix
      by_cases e : x.n = p1
      · rw [if_pos e]
        exact ⟨tx_zero _ _, tx_zero _ _⟩
      · rw [if_neg e]
        have := HH.out.eds x ((keep_sub G p1).subset hx)
        exact ⟨this.1.tch (hT.more fun _ e => Or.inr e), this.2.tch (hT.more fun _ e => Or.inr e)⟩
end Go.Proofs.Ytfeaffabminpfaa

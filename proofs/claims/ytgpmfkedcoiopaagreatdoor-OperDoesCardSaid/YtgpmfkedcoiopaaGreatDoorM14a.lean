/-
  Merged: OpMade, OpPile, OpTime, OpTurn, OpRange, OpSpan, OpOut.
-/
import Derived.Test.YtgpmfkedcoiopaaGreatDoorM07e
import Derived.Test.YtgpmfkedcoiopaaGreatDoorTextsOpen
import Derived.Test.YtgpmfkedcoiopaaGreatDoorSeesMath
import Derived.Deep.RegionHeld3
import Derived.Deep.DeepCutAuto
import Derived.Test.YtgpmfkedcoiopaaGreatDoorM03o
import Derived.Test.YtgpmfkedcoiopaaGreatDoorHsApply
import Derived.Test.YtgpmfkedcoiopaaGreatDoorM12p
import Derived.BigQuiet
/-
  The document's made: new bytes: layer 14.
-/
namespace Go.Proofs.YtgpmfkedcoiopaaGreatDoor
open Go.RowKit

/-- a text stored into a result's variable -/
theorem text_end {w w2 : World} {gr b0 c : Nat} {A : Option Addr} {s0 v0 : Value} {V : List UInt8} {r : List RunP} (hb : Below w.heap.size w w2) (hg : Blk w2 gr 32 #[s0, v0]) (h1 : w.heap.size ≤ gr) (h2 : gr < b0)
    (own : w2.ownsRow b0 77 2 (.slice A r.length c) r.length (flatR r)) :
    Grow ((w2.setCell ⟨gr, 0, none⟩ (.string ⟨V.toArray⟩)).setCell ⟨gr, 1, none⟩ (.slice A r.length c)) (fun w' => Blk w' gr 32 #[.string ⟨V.toArray⟩, .slice A r.length c] ∧ w'.ownsRow w.heap.size 77 2 (.slice A r.length c) r.length (flatR r) ∧ Below w.heap.size w w') := by
  intro w' hw
  have hb2 : Below w.heap.size w ((w2.setCell ⟨gr, 0, none⟩ (.string ⟨V.toArray⟩)).setCell ⟨gr, 1, none⟩ (.slice A r.length c)) := (hb.setCell (by show w.heap.size ≤ gr; exact h1) _).setCell (by show w.heap.size ≤ gr; exact h1) _
  have ho := own_away (own_away own (p := ⟨gr, 0, none⟩) h2 (.string ⟨V.toArray⟩)) (p := ⟨gr, 1, none⟩) h2 (.slice A r.length c)
  have hg2 : Blk ((w2.setCell ⟨gr, 0, none⟩ (.string ⟨V.toArray⟩)).setCell ⟨gr, 1, none⟩ (.slice A r.length c)) gr 32 #[.string ⟨V.toArray⟩, .slice A r.length c] := blk_two hg _ _
  exact ⟨hg2.below hw hg2.lt, own_keep (own_base ho (by omega)) hw (Nat.le_refl _), hb2.trans (hw.mono hb2.size)⟩
set_option maxHeartbeats 1000000 in
theorem refPMade_any (S : List UInt8) (hS : S.length ≤ maxLen) (x : Nat) (hx : x < 18446744073709551616) (w : World) :
    Calls Tryz.prog 74 #[.string ⟨S.toArray⟩, .int .u64 (x : Nat)] w (GivesT1 w (makeOf S x).1.1 (makeOf S x).1.2) := by
  obtain ⟨p, hp⟩ : ∃ p, makeOf S x = p := ⟨_, rfl⟩
  rw [hp]
  have HP := Lib.hid hp
  clear hp
  obtain ⟨⟨V, r⟩, n⟩ := p
  have Q := Lib.hid (Blk.new w 32 #[.string ⟨#[]⟩, .slice none 0 0])
  have B0 : Hid (Below w.heap.size w (w.alloc (.cells #[.string ⟨#[]⟩, .slice none 0 0] 32))) := (Below.refl _ w).alloc (Nat.le_refl _) _
  go_enter Tryz.func74, Tryz.ntmps74
  go_wp2_with (go_at_call 130; refine (refTMake_any S hS x hx _).mono ?_; rw [HP.out]; rintro e w2 ⟨A4, c4, rfl, own, bb⟩; dsimp only at own ⊢; have hlt : w.heap.size < w2.heap.size := Nat.lt_of_lt_of_le (Nat.lt_succ_self _) (by have := bb.size; simpa using this); have Q2 := Q.out.below bb (by simp); obtain ⟨y0, y1⟩ := txt_cells Q2; have y2 := Q2.frozen 0; have y3 := Q2.frozen 1; have HO := Lib.hid own; have HB := Lib.hid (B0.out.trans (bb.mono (by simp))); have HQ := Lib.hid Q2; clear own bb Q2)
  have E := (text_end (V := V) HB.out HQ.out (Nat.le_refl _) (by simp) HO.out).alloc (.cells #[.string ⟨V.toArray⟩, .slice A4 r.length c4] 32)
  refine ret_text1 rfl _ _ w.heap.size _ _ rfl E.now.1 rfl ?_
  exact ⟨A4, c4, rfl, E.now.2.1, E.now.2.2⟩
end Go.Proofs.YtgpmfkedcoiopaaGreatDoor

/-
  The document's piled: texts, one behind the other, as long as they are not too long: layer 14.
-/
namespace Go.Proofs.YtgpmfkedcoiopaaGreatDoor
open Go.RowKit
set_option maxRecDepth 100000

/-- a text as a plain value -/
abbrev TP := List UInt8 × List RunP
def TextP.tp (r : TextP) : TP := (r.S, r.l)
def bytesC (L : List TP) : List UInt8 := L.flatMap (·.1)
def labsC (L : List TP) : List Nat := L.flatMap fun t => bytesOf t.2
def goodC (L : List TP) : Bool := L.all fun t => goodT t.1 t.2
def pileM (L : List TP) : Option TP := if goodC L = true ∧ (bytesC L).length ≤ 4096 then some (bytesC L, pack (labsC L)) else none
theorem bytesC_app (L M : List TP) : bytesC (L ++ M) = bytesC L ++ bytesC M := by simp [bytesC]
theorem labsC_app (L M : List TP) : labsC (L ++ M) = labsC L ++ labsC M := by simp [labsC]
theorem goodC_app (L M : List TP) : goodC (L ++ M) = (goodC L && goodC M) := by simp [goodC]
theorem take_mid {α : Type} {L : List α} {k : Nat} (h : k < L.length) : L = L.take k ++ [L[k]] ++ L.drop (k + 1) := by
  rw [← List.take_succ_eq_append_getElem h, List.take_append_drop]
theorem labsC_len (L : List TP) (h : goodC L = true) : (labsC L).length = (bytesC L).length := by
  induction L with
  | nil => rfl
  | cons t L ih =>
    have h' : goodT t.1 t.2 = true ∧ goodC L = true := by simpa [goodC] using h
    have := (goodT_size h'.1).2.2
    have := ih h'.2
    simp only [labsC, bytesC, List.flatMap_cons, List.length_append] at *
    omega
theorem labsC_take {L : List TP} {k : Nat} {x : Nat} (h : x ∈ labsC (L.take k)) : x ∈ labsC L := by
  obtain ⟨t, ht, hx⟩ := List.mem_flatMap.1 h
  exact List.mem_flatMap.2 ⟨t, List.mem_of_mem_take ht, hx⟩
/-- one more -/
theorem pile_bad {L : List TP} {k : Nat} (h : k < L.length) (hb : ¬ (goodT L[k].1 L[k].2 = true ∧ (bytesC (L.take k)).length + L[k].1.length ≤ 4096)) : pileM L = none := by
  unfold pileM
  rw [if_neg]
  rintro ⟨h1, h2⟩
  apply hb
  rw [take_mid h, goodC_app, goodC_app] at h1
  rw [take_mid h, bytesC_app, bytesC_app] at h2
  simp only [Bool.and_eq_true] at h1
  have hg : goodT L[k].1 L[k].2 = true := by have := h1.1.2; simpa [goodC] using this
  refine ⟨hg, ?_⟩
  simp only [List.length_append] at h2
  have : (bytesC [L[k]]).length = L[k].1.length := by simp [bytesC]
  omega
def GivesTB (w : World) (r : Option TP) (e : Ending) (w' : World) : Prop :=
  ∃ A c, e = .returned (.tuple #[.agg #[.string ⟨(r.getD ([], [])).1.toArray⟩, .slice A (r.getD ([], [])).2.length c], .bool r.isSome]) ∧ w'.ownsRow w.heap.size 77 2 (.slice A (r.getD ([], [])).2.length c) (r.getD ([], [])).2.length (flatR (r.getD ([], [])).2) ∧ Below w.heap.size w w'
/-- what is kept while texts are piled -/
structure PileK (w wr : World) (A : Option Addr) (c : Nat) (U : List UInt8) (q : List RunP) : Prop where
  blk : Blk wr (w.heap.size + 1) 32 #[.string ⟨U.toArray⟩, .slice A q.length c]
  res : Blk wr w.heap.size 32 #[.string ⟨#[]⟩, .slice none 0 0]
  own : wr.ownsRow (w.heap.size + 2) 77 2 (.slice A q.length c) q.length (flatR q)
  bel : Below w.heap.size w wr
  siz : w.heap.size + 2 ≤ wr.heap.size
theorem PileK.step {w wr w' : World} {A : Option Addr} {c : Nat} {U : List UInt8} {q : List RunP} (h : PileK w wr A c U q) (hb : Below wr.heap.size wr w') : PileK w w' A c U q :=
  ⟨h.blk.below hb h.blk.lt, h.res.below hb h.res.lt, own_keep h.own hb (Nat.le_refl _), h.bel.trans (hb.mono h.bel.size), Nat.le_trans h.siz hb.size⟩
theorem PileK.store {w wr : World} {A A' : Option Addr} {c c' b : Nat} {U V : List UInt8} {q r : List RunP} (h : PileK w wr A c U q) (hb : w.heap.size + 2 ≤ b) (own : wr.ownsRow b 77 2 (.slice A' r.length c') r.length (flatR r)) :
    PileK w ((wr.setCell ⟨w.heap.size + 1, 0, none⟩ (.string ⟨V.toArray⟩)).setCell ⟨w.heap.size + 1, 1, none⟩ (.slice A' r.length c')) A' c' V r where
  blk := blk_two h.blk _ _
  res := (h.res.far (p := ⟨w.heap.size + 1, 0, none⟩) (by simp) _).far (p := ⟨w.heap.size + 1, 1, none⟩) (by simp) _
  own := own_base (own_away (own_away own (p := ⟨w.heap.size + 1, 0, none⟩) (by show w.heap.size + 1 < b; omega) _) (p := ⟨w.heap.size + 1, 1, none⟩) (by show w.heap.size + 1 < b; omega) _) hb
  bel := (h.bel.setCell (p := ⟨w.heap.size + 1, 0, none⟩) (by show w.heap.size ≤ w.heap.size + 1; omega) _).setCell (p := ⟨w.heap.size + 1, 1, none⟩) (by show w.heap.size ≤ w.heap.size + 1; omega) _
  siz := by have := h.siz; simpa using this
theorem kn_txt {w w2 : World} {T : TypeId} {u v : Value} (h : Below ((w.alloc (.cells #[u, v] T)).drew).heap.size (w.alloc (.cells #[u, v] T)).drew w2) :
    w2.cell? ⟨w.heap.size, 0, none⟩ = some u ∧ w2.cell? ⟨w.heap.size, 1, none⟩ = some v ∧ w2.frozen? ⟨w.heap.size, 0, none⟩ = false ∧ w2.frozen? ⟨w.heap.size, 1, none⟩ = false ∧ Blk w2 w.heap.size T #[u, v] := by
  have hb : Blk w2 w.heap.size T #[u, v] := (show Blk (w.alloc (.cells #[u, v] T)).drew w.heap.size T #[u, v] from (Blk.new w T #[u, v]).drew).below h (by show w.heap.size < (w.alloc (.cells #[u, v] T)).heap.size; simp)
  exact ⟨(txt_cells hb).1, (txt_cells hb).2, hb.frozen 0, hb.frozen 1, hb⟩
set_option maxHeartbeats 4000000 in
theorem refPPiled_any (A : Option Addr) (c : Nat) (ts : List TextP) (hlen : ts.length ≤ 100000) (w : World) (hT : ∀ r ∈ ts, Txu w r.A r.S r.l) (row : Row w w.heap.size A (flatX ts)) :
    Calls Tryz.prog 114 #[.slice A ts.length c] w (GivesTB w (pileM (ts.map TextP.tp))) := by
  have HT := Lib.hid hT
  have HROW := Lib.hid row
  clear hT row
  have K0 : Hid (PileK w ((w.alloc (.cells #[.string ⟨#[]⟩, .slice none 0 0] 32)).alloc (.cells #[.string ⟨#[]⟩, .slice none 0 0] 32)) none 0 [] []) := by
    obtain ⟨b0, sz, k0, k1⟩ := two_boxes w 32 32 (.string ⟨#[]⟩) (.slice none 0 0) (.string ⟨#[]⟩) (.slice none 0 0)
    exact ⟨k1, k0, World.ownsRow_nil _ _ _ _, b0, by omega⟩
  go_enter Tryz.func114, Tryz.ntmps114
  go_upto_region 3 with fail
  generalize (w.alloc (.cells #[.string ⟨#[]⟩, .slice none 0 0] 32)).alloc (.cells #[.string ⟨#[]⟩, .slice none 0 0] 32) = wa at *
  obtain ⟨L, hL⟩ : ∃ L, ts.map TextP.tp = L := ⟨_, rfl⟩
  rw [hL]
  have HFT : Hid (∀ x ∈ labsC L, x < 18446744073709551616) := by
    intro x hx
    rw [← hL] at hx
    obtain ⟨t, ht, hx⟩ := List.mem_flatMap.1 hx
    obtain ⟨r, hr, rfl⟩ := List.mem_map.1 ht
    exact bytesOf_mem (HT.out r hr).hf x hx
  have HL := Lib.hid hL
  clear hL
  go_loopw [5] (fun i wr => ∃ (k : Nat) (A5 : Option Addr) (c5 : Nat), i = .int .i64 k ∧ k ≤ ts.length ∧ Hid (goodC (L.take k) = true ∧ (bytesC (L.take k)).length ≤ 4096) ∧ Hid (PileK w wr A5 c5 (bytesC (L.take k)) (pack (labsC (L.take k))))) (fun i _ => ts.length - (intOf i).toNat)
  case atStart => exact ⟨0, none, 0, rfl, Nat.zero_le _, ⟨rfl, Nat.zero_le _⟩, K0⟩
  case round =>
    clear K0
    obtain ⟨k, A5, c5, rfl, hk, HG, HK⟩ := hrel
    have hLl : L.length = ts.length := by rw [← HL.out, List.length_map]
    by_cases hlt : k < ts.length
    · obtain ⟨ad, rfl, hbl, d0, d1⟩ := text_at (HROW.out.below HK.out.bel) hlt
      have HTK := Lib.hid (HT.out ts[k] (List.getElem_mem hlt))
      have hLk : L[k]'(by omega) = (ts[k].S, ts[k].l) := by simp only [← HL.out, List.getElem_map]; rfl
      have hbad := pile_bad (L := L) (k := k) (by omega)
      have hsn : L.take (k + 1) = L.take k ++ [(ts[k].S, ts[k].l)] := by rw [← hLk]; exact List.take_succ_eq_append_getElem (by omega)
      rw [hLk] at hbad
      have HSN := Lib.hid hsn
      have HBAD := Lib.hid hbad
      clear hsn hbad hLk
      generalize ts[k] = r at *
      obtain ⟨S, A', c', l⟩ := r
      dsimp only at d0 d1 HTK HSN HBAD
      have hgU : goodT (bytesC (L.take k)) (pack (labsC (L.take k))) = true := (goodT_iff _ _).2 ⟨goodB_pack (by rw [labsC_len _ HG.out.1]; exact HG.out.2), by rw [bytesOf_pack, labsC_len _ HG.out.1]⟩
      obtain ⟨U, hU⟩ : ∃ U, bytesC (L.take k) = U := ⟨_, rfl⟩
      obtain ⟨b, hb⟩ : ∃ b, labsC (L.take k) = b := ⟨_, rfl⟩
      obtain ⟨q, hq⟩ : ∃ q, pack b = q := ⟨_, rfl⟩
      rw [hU, hb, hq] at HK hgU
      have hqb : bytesOf q = b := by rw [← hq, bytesOf_pack]
      have hU4 : U.length ≤ 4096 := (goodT_size hgU).1
      have hqf : Fits q ∧ q.length ≤ maxLen := by
        have hbl : b.length ≤ 4096 := by rw [← hb, labsC_len _ HG.out.1]; exact HG.out.2
        rw [← hq]
        exact ⟨fits_pack (fun x hx => HFT.out x (by rw [← hb] at hx; exact labsC_take hx)) hbl, pack_small hbl⟩
      have TU : Txt wr wr.heap.size A5 U q := ⟨by unfold maxLen; omega, hqf.1, hqf.2, Row.of_own HK.out.own⟩
      have TR : Txu wr A' S l := grow_txu HTK.out _ HK.out.bel
      by_cases hg : goodT S l = true ∧ U.length + S.length ≤ 4096
      · have hcat := catT_two (U := U) (S := S) (q := q) (l := l) hgU hg.1
        rw [hqb, if_pos hg.2] at hcat
        have HC := Lib.hid hcat
        have HG2 : Hid (goodC (L.take (k + 1)) = true ∧ (bytesC (L.take (k + 1))).length ≤ 4096) := by
          rw [HSN.out, goodC_app, bytesC_app, hU, List.length_append, HG.out.1]
          exact ⟨by simp [goodC, hg.1], by have := hg.2; simp [bytesC]; omega⟩
        have HV2 : Hid (bytesC (L.take (k + 1)) = U ++ S ∧ pack (labsC (L.take (k + 1))) = pack (b ++ bytesOf l)) := by
          rw [HSN.out, bytesC_app, labsC_app, hU, hb]
          exact ⟨by simp [bytesC], by simp [labsC]⟩
        obtain ⟨V, hV⟩ : ∃ V, U ++ S = V := ⟨_, rfl⟩
        obtain ⟨Q, hQ⟩ : ∃ Q, pack (b ++ bytesOf l) = Q := ⟨_, rfl⟩
        rw [hV, hQ] at HV2 HC
        clear hV hQ hcat hg HBAD HG hgU hqb hqf hU hb hq HSN
        have hd : (k : Int) < (ts.length : Int) := by omega
        obtain ⟨y0, y1⟩ := txt_cells HK.out.blk
        go_upto_region 5 with fail
        have KC : Hid (∀ w', Below wr.heap.size wr w' → ((w'.cell? ⟨w.heap.size + 1, 0, none⟩ = some (.string ⟨U.toArray⟩) ∧ w'.cell? ⟨w.heap.size + 1, 1, none⟩ = some (.slice A5 q.length c5)) ∧ w'.cell? (ad.add (k * 2)) = some (.string ⟨S.toArray⟩) ∧ w'.cell? ⟨(ad.add (k * 2)).block, (ad.add (k * 2)).off + 1, none⟩ = some (.slice A' l.length c')) ∧ Below wr.heap.size wr w') := fun w' hb => by
          have z := HK.out.siz
          have hz : (ad.add (k * 2)).block < wr.heap.size := by rw [add_block]; omega
          exact ⟨⟨⟨(hb.cell (p := ⟨w.heap.size + 1, 0, none⟩) (by show w.heap.size + 1 < _; omega)).trans y0, (hb.cell (p := ⟨w.heap.size + 1, 1, none⟩) (by show w.heap.size + 1 < _; omega)).trans y1⟩, ⟨(hb.cell hz).trans d0, (hb.cell (p := ⟨(ad.add (k * 2)).block, (ad.add (k * 2)).off + 1, none⟩) hz).trans d1⟩⟩, hb⟩
        have TG : Hid (∀ w', Below wr.heap.size wr w' → Txt w' wr.heap.size A5 U q ∧ Txt w' wr.heap.size A' S l) := fun w' hb => ⟨TU.below hb, TR.below hb⟩
        clear y0 y1 d0 d1 TU TR
        go_cut [6, 7] (fun s6 s7 wx => ∃ (g6 : Nat) (A6 : Option Addr) (c6 : Nat), s6 = .pointer (some ⟨g6, 0, none⟩) ∧ s7 = .int .i64 0 ∧ Blk wx g6 32 #[.string ⟨V.toArray⟩, .slice A6 Q.length c6] ∧ wx.ownsRow wr.heap.size 77 2 (.slice A6 Q.length c6) Q.length (flatR Q) ∧ Below wr.heap.size wr wx)
        case first =>
          have hb0 : Below wr.heap.size wr wr := Below.refl _ _
          have TC : Hid (∀ w', Below wr.heap.size wr w' → Calls Tryz.prog 161 #[.agg #[.string ⟨U.toArray⟩, .slice A5 q.length c5], .agg #[.string ⟨S.toArray⟩, .slice A' l.length c']] w' fun e w'' => ∃ A6 c6, e = .returned (.tuple #[.agg #[.string ⟨V.toArray⟩, .slice A6 Q.length c6], .int .i64 0]) ∧ w''.ownsRow w'.heap.size 77 2 (.slice A6 Q.length c6) Q.length (flatR Q) ∧ Below wr.heap.size wr w'' ∧ Below w'.heap.size w' w'') := fun w' hb => by
            have hz := hb.size
            refine (refTCat_any A5 A' c5 c' _ _ U S q l _ hz hz (TG.out _ hb).1 (TG.out _ hb).2).mono ?_
            rw [HC.out]
            rintro e w2 ⟨A6, c6, rfl, own6, b6⟩
            exact ⟨A6, c6, rfl, own6, hb.trans (b6.mono hz), b6⟩
          go_region_held3 (fun w' => ((w'.cell? ⟨w.heap.size + 1, 0, none⟩ = some (.string ⟨U.toArray⟩) ∧ w'.cell? ⟨w.heap.size + 1, 1, none⟩ = some (.slice A5 q.length c5)) ∧ w'.cell? (ad.add (k * 2)) = some (.string ⟨S.toArray⟩) ∧ w'.cell? ⟨(ad.add (k * 2)).block, (ad.add (k * 2)).off + 1, none⟩ = some (.slice A' l.length c')) ∧ Below wr.heap.size wr w')
            ((refine KC.out _ ?_; (repeat (first | assumption | refine below_dr ?_ | refine below_al ?_ (Nat.le_refl _) | (refine Below.setCell ?_ ?_ _; rotate_left; (first | focus (simp; done) | focus (simp; omega))))); done))
            (first
              | (go_at_call 161; refine (TC.out _ ?_).mono ?_; (repeat (first | assumption | refine below_dr ?_ | refine below_al ?_ (Nat.le_refl _))); rintro e w2 ⟨A6, c6, rfl, own6, hbx, hby⟩; have hzy := hbx.size; have HO := Lib.hid own6; clear own6; have hzz : Hid (wr.heap.size ≤ _) := hb0.size; first | (refine use_fact (kn_txt hby) ?_; intro a2; obtain ⟨a20, a21, a22, a23, a24⟩ := a2; have AB := Lib.hid a24; clear a24) | skip))
          all_goals go_wp2_with fail
          all_goals go_meet
          all_goals refine ⟨_, A6, c6, rfl, rfl, ?_, ?_, ?_⟩
          · exact Blk.new _ _ _
          · exact own_base (own_keep HO.out ((Below.refl _ _).alloc (Nat.le_refl _) _) (Nat.le_refl _)) hzz.out
          · exact hbx.alloc hbx.size _
          · exact blk_two AB.out _ _
          · exact own_base (own_away (own_away HO.out (p := ⟨wr.heap.size, 0, none⟩) (by show wr.heap.size < (wr.alloc _).heap.size; simp) _) (p := ⟨wr.heap.size, 1, none⟩) (by show wr.heap.size < (wr.alloc _).heap.size; simp) _) (by show wr.heap.size ≤ (wr.alloc _).heap.size; simp)
          · exact (hbx.setCell (p := ⟨wr.heap.size, 0, none⟩) (Nat.le_refl _) _).setCell (p := ⟨wr.heap.size, 1, none⟩) (Nat.le_refl _) _
        case rest =>
          obtain ⟨g6, A6, c6, rfl, rfl, hB6, hO6, hbx⟩ := hcut
          have K6 := Lib.hid (HK.out.step hbx)
          obtain ⟨z0, z1⟩ := txt_cells hB6
          obtain ⟨y0, y1⟩ := txt_cells K6.out.blk
          have y2 := K6.out.blk.frozen 0
          have y3 := K6.out.blk.frozen 1
          have HO6 := Lib.hid hO6
          have HS2 := Lib.hid HK.out.siz
          clear hB6 hO6 hbx
          go_wp2_with fail
          exact ⟨⟨k + 1, A6, c6, by go_num, by omega, HG2, by rw [HV2.out.1, HV2.out.2]; exact K6.out.store (by have := HS2.out; omega) HO6.out⟩, by simp [intOf]; omega⟩
      · have HN : Hid (pileM L = none) := HBAD.out (by rw [hU]; exact hg)
        have hcn : ∃ (V : List UInt8) (Q : List RunP) (n : Nat), n ≠ 0 ∧ n ≤ 3 ∧ catT U q S l = ((V, Q), n) := by
          by_cases hg1 : goodT S l = true
          · have hcat := catT_two (U := U) (S := S) (q := q) (l := l) hgU hg1
            rw [if_neg (fun h => hg ⟨hg1, h⟩)] at hcat
            exact ⟨_, _, 3, by decide, by decide, hcat⟩
          · exact ⟨_, _, 2, by decide, by decide, by unfold catT; rw [if_neg (fun h => hg1 h.2)]⟩
        obtain ⟨V, Q, n, hn0, hn3, hcat⟩ := hcn
        have HC := Lib.hid hcat
        have hn0' : ((n : Int) == 0) = false := by rw [beq_eq_false_iff_ne]; omega
        have hn0'' : ((n : Int) != 0) = true := by rw [bne_iff_ne]; omega
        clear hcat hg HBAD HG hgU hqb hqf hU hb hq HSN hn0 hn3
        have hd : (k : Int) < (ts.length : Int) := by omega
        obtain ⟨y0, y1⟩ := txt_cells HK.out.blk
        go_upto_region 5 with fail
        have KC : Hid (∀ w', Below wr.heap.size wr w' → ((w'.cell? ⟨w.heap.size + 1, 0, none⟩ = some (.string ⟨U.toArray⟩) ∧ w'.cell? ⟨w.heap.size + 1, 1, none⟩ = some (.slice A5 q.length c5)) ∧ w'.cell? (ad.add (k * 2)) = some (.string ⟨S.toArray⟩) ∧ w'.cell? ⟨(ad.add (k * 2)).block, (ad.add (k * 2)).off + 1, none⟩ = some (.slice A' l.length c')) ∧ Below wr.heap.size wr w') := fun w' hb => by
          have z := HK.out.siz
          have hz : (ad.add (k * 2)).block < wr.heap.size := by rw [add_block]; omega
          exact ⟨⟨⟨(hb.cell (p := ⟨w.heap.size + 1, 0, none⟩) (by show w.heap.size + 1 < _; omega)).trans y0, (hb.cell (p := ⟨w.heap.size + 1, 1, none⟩) (by show w.heap.size + 1 < _; omega)).trans y1⟩, ⟨(hb.cell hz).trans d0, (hb.cell (p := ⟨(ad.add (k * 2)).block, (ad.add (k * 2)).off + 1, none⟩) hz).trans d1⟩⟩, hb⟩
        have TG : Hid (∀ w', Below wr.heap.size wr w' → Txt w' wr.heap.size A5 U q ∧ Txt w' wr.heap.size A' S l) := fun w' hb => ⟨TU.below hb, TR.below hb⟩
        clear y0 y1 d0 d1 TU TR
        go_cut [6, 7] (fun s6 s7 wx => s7 = .int .i64 (n : Nat) ∧ Below wr.heap.size wr wx)
        case first =>
          have hb0 : Below wr.heap.size wr wr := Below.refl _ _
          have TC : Hid (∀ w', Below wr.heap.size wr w' → Calls Tryz.prog 161 #[.agg #[.string ⟨U.toArray⟩, .slice A5 q.length c5], .agg #[.string ⟨S.toArray⟩, .slice A' l.length c']] w' fun e w'' => ∃ A6 c6, e = .returned (.tuple #[.agg #[.string ⟨V.toArray⟩, .slice A6 Q.length c6], .int .i64 (n : Nat)]) ∧ w''.ownsRow w'.heap.size 77 2 (.slice A6 Q.length c6) Q.length (flatR Q) ∧ Below wr.heap.size wr w'' ∧ Below w'.heap.size w' w'') := fun w' hb => by
            have hz := hb.size
            refine (refTCat_any A5 A' c5 c' _ _ U S q l _ hz hz (TG.out _ hb).1 (TG.out _ hb).2).mono ?_
            rw [HC.out]
            rintro e w2 ⟨A6, c6, rfl, own6, b6⟩
            exact ⟨A6, c6, rfl, own6, hb.trans (b6.mono hz), b6⟩
          go_region_held3 (fun w' => ((w'.cell? ⟨w.heap.size + 1, 0, none⟩ = some (.string ⟨U.toArray⟩) ∧ w'.cell? ⟨w.heap.size + 1, 1, none⟩ = some (.slice A5 q.length c5)) ∧ w'.cell? (ad.add (k * 2)) = some (.string ⟨S.toArray⟩) ∧ w'.cell? ⟨(ad.add (k * 2)).block, (ad.add (k * 2)).off + 1, none⟩ = some (.slice A' l.length c')) ∧ Below wr.heap.size wr w')
            ((refine KC.out _ ?_; (repeat (first | assumption | refine below_dr ?_ | refine below_al ?_ (Nat.le_refl _) | (refine Below.setCell ?_ ?_ _; rotate_left; (first | focus (simp; done) | focus (simp; omega))))); done))
            (first
              | (go_at_call 161; refine (TC.out _ ?_).mono ?_; (repeat (first | assumption | refine below_dr ?_ | refine below_al ?_ (Nat.le_refl _))); rintro e w2 ⟨A6, c6, rfl, own6, hbx, hby⟩; have hzy := hbx.size; have HO := Lib.hid own6; clear own6; have hzz : Hid (wr.heap.size ≤ _) := hb0.size; first | (refine use_fact (kn_txt hby) ?_; intro a2; obtain ⟨a20, a21, a22, a23, a24⟩ := a2; have AB := Lib.hid a24; clear a24) | skip))
          all_goals go_wp2_with fail
          all_goals go_meet
          all_goals refine ⟨rfl, ?_⟩
          · exact hbx.alloc hbx.size _
          · exact (hbx.setCell (p := ⟨wr.heap.size, 0, none⟩) (Nat.le_refl _) _).setCell (p := ⟨wr.heap.size, 1, none⟩) (Nat.le_refl _) _
        case rest =>
          obtain ⟨rfl, hbx⟩ := hcut
          have K6 := Lib.hid (HK.out.step hbx)
          obtain ⟨y0, y1⟩ := txt_cells K6.out.res
          have y2 := K6.out.res.frozen 0
          have y3 := K6.out.res.frozen 1
          clear hbx
          go_wp2_with fail
          have E := text_end (V := []) (r := []) (A := none) (c := 0) K6.out.bel K6.out.res (Nat.le_refl _) (Nat.lt_succ_self _) (World.ownsRow_nil _ _ _ _)
          refine ret_text rfl _ _ w.heap.size _ _ rfl E.now.1 rfl ?_
          rw [HN.out]
          exact ⟨none, 0, rfl, E.now.2.1, E.now.2.2⟩
    · have HP : Hid (pileM L = some (bytesC L, pack (labsC L))) := by
        have := HG.out
        rw [List.take_of_length_le (by omega)] at this
        exact if_pos this
      rw [List.take_of_length_le (by omega)] at HK
      have hd : ¬ (k : Int) < (ts.length : Int) := by omega
      obtain ⟨y0, y1⟩ := txt_cells HK.out.blk
      obtain ⟨x0, x1⟩ := txt_cells HK.out.res
      have x2 := HK.out.res.frozen 0
      have x3 := HK.out.res.frozen 1
      generalize bytesC L = V at *
      generalize pack (labsC L) = r at *
      go_wp2_with fail
      have E := text_end (V := V) HK.out.bel HK.out.res (Nat.le_refl _) (by omega) HK.out.own
      refine ret_text rfl _ _ w.heap.size _ _ rfl E.now.1 rfl ?_
      rw [HL.out, HP.out]
      exact ⟨A5, c5, rfl, E.now.2.1, E.now.2.2⟩
end Go.Proofs.YtgpmfkedcoiopaaGreatDoor

/-
  The document's times: some texts, n times: layer 14.
-/
namespace Go.Proofs.YtgpmfkedcoiopaaGreatDoor
open Go.RowKit
set_option maxRecDepth 100000

theorem elt_textO : Elt Tryz.prog 125 32 (.agg #[.string ⟨#[]⟩, .slice none 0 0]) 2 40 := ⟨Tryz.underlying125, by kernel_rfl, rfl, by decide⟩
theorem flatX_snocO (gs : List TextP) (t : TextP) : flatX (gs ++ [t]) = flatX gs ++ [.string ⟨t.S.toArray⟩, .slice t.A t.l.length t.c] := by simp [flatX]
def timesM (L : List TP) (n : Nat) : Option TP :=
  match pileM L with
  | none => none
  | some x => if x.1.length * n ≤ 4096 then pileM (List.replicate n x) else none
theorem pile_good {L : List TP} {S : List UInt8} {l : List RunP} (h : pileM L = some (S, l)) : goodT S l = true := by
  unfold pileM at h
  split at h
  · next hc =>
    injection h with h
    injection h with h1 h2
    subst h1 h2
    exact (goodT_iff _ _).2 ⟨goodB_pack (by rw [labsC_len _ hc.1]; exact hc.2), by rw [bytesOf_pack, labsC_len _ hc.1]⟩
  · cases h
theorem pile_fits {L : List TP} {S : List UInt8} {l : List RunP} (hf : ∀ x ∈ labsC L, x < 18446744073709551616) (h : pileM L = some (S, l)) : Fits l ∧ l.length ≤ maxLen := by
  unfold pileM at h
  split at h
  · next hc =>
    injection h with h
    injection h with h1 h2
    subst h1 h2
    have hl : (labsC L).length ≤ 4096 := by rw [labsC_len _ hc.1]; exact hc.2
    exact ⟨fits_pack hf hl, pack_small hl⟩
  · cases h
end Go.Proofs.YtgpmfkedcoiopaaGreatDoor

/-
  The document's turned: the edit by which a text comes in place of some bytes, and the view behind: layer 14.
-/
namespace Go.Proofs.YtgpmfkedcoiopaaGreatDoor
open Go.RowKit
set_option maxRecDepth 100000

/-- no label among some cells -/
def NoLab (cs : Array Value) : Prop := ∀ v ∈ cs.toList, ∀ n : Int, v ≠ .int .u64 n
theorem rowN_noLab {wx : World} {B g T : Nat} {A : Option Addr} {l : List RunP} {cs : Array Value} (h : Row wx B A (flatR l)) (hB : B ≤ wx.heap.size) (hg : Blk wx g T cs) (hcs : NoLab cs) : RowN wx g A (flatR l) := by
  rcases l with _ | ⟨r, l⟩
  · exact .inl rfl
  · rcases h with h | ⟨ad, e, hb, hc⟩
    · exact .inl h
    · refine .inr ⟨ad, e, fun hbg => ?_, by omega, hc⟩
      have h0 : wx.cell? (ad.add 0) = some (.int .u64 (r.1 : Nat)) := hc 0 _ rfl
      have ha : ad.add 0 = ad := rfl
      have hh : wx.heap[ad.block]? = some (.cells cs T (0, 0)) := by rw [hbg]; exact hg
      rw [ha] at h0
      unfold World.cell? at h0
      rw [hh] at h0
      dsimp only at h0
      split at h0
      · cases h0
      · obtain ⟨h1, h2⟩ := Array.getElem?_eq_some_iff.1 h0
        exact hcs _ (by rw [Array.mem_toList_iff, Array.mem_iff_getElem]; exact ⟨_, h1, h2⟩) _ rfl
theorem noLab_edit (a : Int) (s t : ByteArray) (A B : Option Addr) (i j k m : Nat) : NoLab #[.int .i64 a, .string s, .slice A i j, .string t, .slice B k m] := by
  intro v hv n
  simp at hv
  rcases hv with rfl | rfl | rfl | rfl | rfl <;> simp
theorem cell_tmp2O {fn : Func} {p q u : Tmp} {ty : TypeId} (h : fn.results = #[.cell p ty, .tmp q, .tmp u]) (tmps : Array Value) (P : Program) (w : World) :
    (results fn tmps).run P w =
      ((asAddr (tmps.getD p undef)).run P w).andThen fun a w₁ => ((loadVar ty a).run P w₁).andThen fun v w₂ => .ok (.tuple #[v, tmps.getD q undef, tmps.getD u undef]) w₂ := by
  simp only [results, h]
  simp [Sem.run_bind, Result.andThen]
theorem ret_edit3 {fn : Func} {p q2 u : Tmp} (h : fn.results = #[.cell p 41, .tmp q2, .tmp u]) (a : Act) (w : World) (g : Nat) (q r s t v : Value) (hp : a.tmps.getD p undef = .pointer (some ⟨g, 0, none⟩)) (hg : Blk w g 41 #[q, r, s, t, v]) (hd : a.defers = [])
    {Q : Ending → World → Prop} (hQ : Q (.returned (.tuple #[.agg #[q, r, s, t, v], a.tmps.getD q2 undef, a.tmps.getD u undef])) w) : bodyPost Tryz.prog fn Q .ret a w := by
  obtain ⟨⟨fs, hu⟩, hi⟩ := edit_facts
  refine bodyPost_ret (v := .tuple #[.agg #[q, r, s, t, v], a.tmps.getD q2 undef, a.tmps.getD u undef]) ?_ hd hQ
  have hp' : a.tmps[p]?.getD undef = .pointer (some ⟨g, 0, none⟩) := by simpa using hp
  rw [cell_tmp2O h]
  simp [hp', asAddr, run_loadVar_row w g 41 41 #[q, r, s, t, v] (0, 0) _ hg hu rfl hi]
def edit0 : EdP := ⟨0, [], [], [], []⟩
/-- an edit, the view behind it, or the error -/
def turnedM (S : List UInt8) (l : List RunP) (y : Nat) (f e : Int) (X : List UInt8) (m : List RunP) (fits : Bool) : (EdP × List UInt8) × Nat :=
  if fits = false then ((edit0, []), 3)
  else if (ofE S l f e X m).2 = 0 then (((ofE S l f e X m).1, (viewOf (spliceT S l f e X m).1.1 (spliceT S l f e X m).1.2 y).1), 0)
  else ((edit0, []), (ofE S l f e X m).2)
def GivesEV (w : World) (r : (EdP × List UInt8) × Nat) (e : Ending) (w' : World) : Prop :=
  ∃ A c A2 d, e = .returned (.tuple #[.agg #[.int .i64 r.1.1.a, .string ⟨r.1.1.S.toArray⟩, .slice A r.1.1.l.length c, .string ⟨r.1.1.X.toArray⟩, .slice A2 r.1.1.m.length d], .string ⟨r.1.2.toArray⟩, .int .i64 (r.2 : Nat)]) ∧ Row w' w'.heap.size A (flatR r.1.1.l) ∧ Row w' w'.heap.size A2 (flatR r.1.1.m) ∧ Below w.heap.size w w'
set_option maxHeartbeats 4000000 in
theorem refPTurned_any (A A2 : Option Addr) (c d : Nat) (S : List UInt8) (l : List RunP) (y : Nat) (hy : y < 18446744073709551616) (f e : Int) (X : List UInt8) (m : List RunP) (fits : Bool) (w : World) (h : Txu w A S l) (hX : Txu w A2 X m) :
    Calls Tryz.prog 73 #[.agg #[.string ⟨S.toArray⟩, .slice A l.length c], .int .u64 (y : Nat), .int .i64 f, .int .i64 e, .agg #[.string ⟨X.toArray⟩, .slice A2 m.length d], .bool fits] w (GivesEV w (turnedM S l y f e X m fits)) := by
  have BX := Lib.hid (boxesE3 w 32 32 41 #[.string ⟨S.toArray⟩, .slice A l.length c] #[.string ⟨X.toArray⟩, .slice A2 m.length d] #[.int .i64 0, .string ⟨#[]⟩, .slice none 0 0, .string ⟨#[]⟩, .slice none 0 0])
  have K := Lib.hid (BX.out.and (((grow_txu h).and (grow_txu hX)).step BX.out.now.2.2.2))
  have FF := Lib.hid (And.intro h.hf hX.hf)
  have FX := Lib.hid (And.intro hX.hS hX.hl)
  clear h hX BX
  obtain ⟨y0, y1⟩ := txt_cells K.out.now.1.1; obtain ⟨z0, z1⟩ := txt_cells K.out.now.1.2.1; obtain ⟨⟨u0, u1, u2, u3, u4⟩, u5, u6, u7, u8, u9⟩ := ed_var K.out.now.1.2.2.1
  cases fits with
  | false =>
    have HR : Hid (turnedM S l y f e X m false = ((edit0, []), 3)) := if_pos rfl
    go_enter Tryz.func73, Tryz.ntmps73
    go_upto_region 1 with fail
    generalize ((w.alloc (.cells #[.string ⟨S.toArray⟩, .slice A l.length c] 32)).alloc (.cells #[.string ⟨X.toArray⟩, .slice A2 m.length d] 32)).alloc (.cells #[.int .i64 0, .string ⟨#[]⟩, .slice none 0 0, .string ⟨#[]⟩, .slice none 0 0] 41) = wx at *
    go_wp2_with fail
    have E := edit_end (A := none) (A2 := none) (l := []) (m := []) (s := ⟨#[]⟩) (x := ⟨#[]⟩) 0 K.out.now.1.2.2.2 K.out.now.1.2.2.1 (by omega) (.inl rfl) (.inl rfl) (.slice none 0 0) (.slice none 0 0)
    refine ret_edit3 rfl _ _ (w.heap.size + 1 + 1) _ _ _ _ _ rfl E.1 rfl ?_
    rw [HR.out]
    exact ⟨none, 0, none, 0, rfl, E.2.1, E.2.2.1, E.2.2.2⟩
  | true =>
    obtain ⟨p, hp⟩ : ∃ p, ofE S l f e X m = p := ⟨_, rfl⟩
    have HT : Hid (turnedM S l y f e X m true = if (ofE S l f e X m).2 = 0 then (((ofE S l f e X m).1, (viewOf (spliceT S l f e X m).1.1 (spliceT S l f e X m).1.2 y).1), 0) else ((edit0, []), (ofE S l f e X m).2)) := if_neg (by decide)
    obtain ⟨⟨a, U, q, V, r⟩, n⟩ := p
    have HP := Lib.hid hp
    by_cases hn : n = 0
    · subst hn
      obtain ⟨rfl, rfl, rfl, hcut, happ, hspl⟩ := of_apply hp
      have hok := okT_cut (S := S) (l := l) FF.out.1 a e
      rw [hcut] at hok
      have hok2 := okT_splice (S := S) (X := V) (l := l) (m := r) FF.out.1 FF.out.2 a e
      obtain ⟨sp, hsp⟩ : ∃ sp, spliceT S l a e V r = sp := ⟨_, rfl⟩
      obtain ⟨⟨W, t⟩, n2⟩ := sp
      rw [hsp] at happ hspl hok2 HT
      dsimp only at hspl
      subst hspl
      rw [hp] at HT
      obtain ⟨vv, hvv⟩ : ∃ vv, viewOf W t y = vv := ⟨_, rfl⟩
      dsimp only at HT
      rw [if_pos rfl, hvv] at HT
      have HAP := Lib.hid happ
      have HVV := Lib.hid hvv
      have OK1 := Lib.hid hok
      have OK2 := Lib.hid hok2
      clear hp hcut happ hok hok2 hsp hvv
      go_enter Tryz.func73, Tryz.ntmps73
      go_upto_region 1 with fail
      generalize ((w.alloc (.cells #[.string ⟨S.toArray⟩, .slice A l.length c] 32)).alloc (.cells #[.string ⟨V.toArray⟩, .slice A2 r.length d] 32)).alloc (.cells #[.int .i64 0, .string ⟨#[]⟩, .slice none 0 0, .string ⟨#[]⟩, .slice none 0 0] 41) = wx at *
      go_wp2_with (first
        | (go_at_call 129; refine (refEOf_any A A2 c d S l a e V r _ K.out.now.2.1 K.out.now.2.2).mono ?_; rw [HP.out]; rintro ee w2 ⟨A3, c3, A4, d4, rfl, r3, r4, bb⟩; dsimp only at r3 r4 ⊢; replace K := Lib.hid ((K.out.step bb).evar (c := c3) (d := d4) (a := a) (A := A3) (B := A4) (OK1.out.txt r3) ⟨FX.out.1, FF.out.2, FX.out.2, r4⟩); clear y0 y1 z0 z1 u0 u1 u2 u3 u4 u5 u6 u7 u8 u9; clear bb r3 r4; obtain ⟨y0, y1⟩ := txt_cells K.out.now.2.1.1; obtain ⟨z0, z1⟩ := txt_cells K.out.now.2.1.2.1; obtain ⟨⟨u0, u1, u2, u3, u4⟩, u5, u6, u7, u8, u9⟩ := ed_var K.out.now.2.1.2.2.1; obtain ⟨v0, v1, v2, v3, v4⟩ := ed_cells K.out.now.1.1)
        | (go_at_call 25; refine (refEApply_any A A3 A4 c c3 d4 S l a U q V r _ K.out.now.2.2.1 K.out.now.1.2.1 K.out.now.1.2.2).mono ?_; rw [HAP.out]; rintro ee w4 ⟨A5, c5, rfl, own, bb⟩; dsimp only at own ⊢; replace K := Lib.hid ((K.out.step bb).var (c := c5) (OK2.out.txt (Row.of_own own))); clear y0 y1 z0 z1 u0 u1 u2 u3 u4 u5 u6 u7 u8 u9; clear v0 v1 v2 v3 v4 bb own; obtain ⟨y0, y1⟩ := txt_cells K.out.now.2.2.1.1; obtain ⟨z0, z1⟩ := txt_cells K.out.now.2.2.1.2.1; obtain ⟨⟨u0, u1, u2, u3, u4⟩, u5, u6, u7, u8, u9⟩ := ed_var K.out.now.2.2.1.2.2.1; obtain ⟨v0, v1, v2, v3, v4⟩ := ed_cells K.out.now.2.1.1; obtain ⟨x0, x1⟩ := txt_cells K.out.now.1.1)
        | (go_at_call 31; refine (refTView_any A5 c5 _ W t y hy _ (Nat.le_refl _) K.out.now.1.2).mono ?_; rw [HVV.out]; rintro ee w6 ⟨rfl, bb⟩; replace K := Lib.hid (K.out.step bb); clear y0 y1 z0 z1 u0 u1 u2 u3 u4 u5 u6 u7 u8 u9; clear v0 v1 v2 v3 v4 x0 x1 bb; obtain ⟨y0, y1⟩ := txt_cells K.out.now.2.2.1.1; obtain ⟨z0, z1⟩ := txt_cells K.out.now.2.2.1.2.1; obtain ⟨⟨u0, u1, u2, u3, u4⟩, u5, u6, u7, u8, u9⟩ := ed_var K.out.now.2.2.1.2.2.1; obtain ⟨v0, v1, v2, v3, v4⟩ := ed_cells K.out.now.2.1.1; obtain ⟨x0, x1⟩ := txt_cells K.out.now.1.1))
      have E := edit_end (A := A3) (A2 := A4) (l := q) (m := r) (s := ⟨U.toArray⟩) (x := ⟨V.toArray⟩) a K.out.now.2.2.1.2.2.2 K.out.now.2.2.1.2.2.1 (by omega) (rowN_noLab K.out.now.2.1.2.1.row (Nat.le_refl _) K.out.now.2.2.1.2.2.1 (noLab_edit _ _ _ _ _ _ _ _ _)) (rowN_noLab K.out.now.2.1.2.2.row (Nat.le_refl _) K.out.now.2.2.1.2.2.1 (noLab_edit _ _ _ _ _ _ _ _ _)) (.slice A3 q.length c3) (.slice A4 r.length d4)
      refine ret_edit3 rfl _ _ (w.heap.size + 1 + 1) _ _ _ _ _ rfl E.1 rfl ?_
      rw [HT.out]
      exact ⟨A3, c3, A4, d4, rfl, E.2.1, E.2.2.1, E.2.2.2⟩
    · rw [hp] at HT
      dsimp only at HT
      rw [if_neg hn] at HT
      have hn1 : ((n : Int) == 0) = false := by rw [beq_eq_false_iff_ne]; omega
      have hn2 : ((n : Int) != 0) = true := by rw [bne_iff_ne]; omega
      clear hp hn
      go_enter Tryz.func73, Tryz.ntmps73
      go_upto_region 1 with fail
      generalize ((w.alloc (.cells #[.string ⟨S.toArray⟩, .slice A l.length c] 32)).alloc (.cells #[.string ⟨X.toArray⟩, .slice A2 m.length d] 32)).alloc (.cells #[.int .i64 0, .string ⟨#[]⟩, .slice none 0 0, .string ⟨#[]⟩, .slice none 0 0] 41) = wx at *
      go_wp2_with (go_at_call 129; refine (refEOf_any A A2 c d S l f e X m _ K.out.now.2.1 K.out.now.2.2).mono ?_; rw [HP.out]; rintro ee w2 ⟨A3, c3, A4, d4, rfl, r3, r4, bb⟩; dsimp only; replace K := Lib.hid ((K.out.step bb).alloc (.cells #[.int .i64 a, .string ⟨U.toArray⟩, .slice A3 q.length c3, .string ⟨V.toArray⟩, .slice A4 r.length d4] 41)); clear y0 y1 z0 z1 u0 u1 u2 u3 u4 u5 u6 u7 u8 u9; clear bb r3 r4; obtain ⟨y0, y1⟩ := txt_cells K.out.now.1.1; obtain ⟨z0, z1⟩ := txt_cells K.out.now.1.2.1; obtain ⟨⟨u0, u1, u2, u3, u4⟩, u5, u6, u7, u8, u9⟩ := ed_var K.out.now.1.2.2.1)
      have E := edit_end (A := none) (A2 := none) (l := []) (m := []) (s := ⟨#[]⟩) (x := ⟨#[]⟩) 0 K.out.now.1.2.2.2 K.out.now.1.2.2.1 (by omega) (.inl rfl) (.inl rfl) (.slice none 0 0) (.slice none 0 0)
      refine ret_edit3 rfl _ _ (w.heap.size + 1 + 1) _ _ _ _ _ rfl E.1 rfl ?_
      rw [HT.out]
      exact ⟨none, 0, none, 0, rfl, E.2.1, E.2.2.1, E.2.2.2⟩
end Go.Proofs.YtgpmfkedcoiopaaGreatDoor

/-
  The document's right, bytes, lines: ranges: layer 14.
-/
namespace Go.Proofs.YtgpmfkedcoiopaaGreatDoor
open Go.RowKit
set_option maxRecDepth 100000

def rightM (V : List UInt8) (f t : Int) (b : Bool) : Bool := if b = true then decide (0 ≤ f ∧ f ≤ t ∧ t < (countL V : Int)) else decide (0 ≤ f ∧ f ≤ t ∧ t ≤ (V.length : Int))
def bytesM (V : List UInt8) (f t : Int) (b : Bool) : Int × Int := if b = true then (((boundsL V f).1.1 : Nat), ((boundsL V t).1.2 : Nat)) else (f, t)
def linesP (V : List UInt8) (f t : Int) (b : Bool) : Int × Int := if b = true then (f, t) else ((ofL V f : Nat), (ofL V (max f (t - 1)) : Nat))
def rngC (w' : World) (g : Nat) (f t : Int) (b : Bool) : Prop := w'.cell? ⟨g, 0, none⟩ = some (.int .i64 f) ∧ w'.cell? ⟨g, 1, none⟩ = some (.int .i64 t) ∧ w'.cell? ⟨g, 2, none⟩ = some (.bool b)
theorem rng_new (w : World) (f t : Int) (b : Bool) : Grow (w.alloc (.cells #[.int .i64 f, .int .i64 t, .bool b] 27)) (fun w' => (w'.cell? ⟨w.heap.size, 0, none⟩ = some (.int .i64 f) ∧ w'.cell? ⟨w.heap.size, 1, none⟩ = some (.int .i64 t) ∧ w'.cell? ⟨w.heap.size, 2, none⟩ = some (.bool b)) ∧ Below w.heap.size w w') := fun w' hb => by
  have h := (Blk.new w 27 #[.int .i64 f, .int .i64 t, .bool b]).below hb (by simp)
  exact ⟨⟨h.cell 0, h.cell 1, h.cell 2⟩, ((Below.refl _ w).alloc (Nat.le_refl _) _).trans (hb.mono (by simp))⟩
theorem use_factO {p G : Prop} (h : p) (k : p → G) : G := k h
set_option maxHeartbeats 2000000 in
theorem refPRight_any (V : List UInt8) (hV : V.length ≤ 1000000) (f t : Int) (b : Bool) (w : World) :
    Calls Tryz.prog 56 #[.string ⟨V.toArray⟩, .agg #[.int .i64 f, .int .i64 t, .bool b]] w fun e w' => e = .returned (.bool (rightM V f t b)) ∧ Below w.heap.size w w' := by
  have K := Lib.hid (rng_new w f t b)
  unfold rightM
  by_cases h0 : 0 ≤ f
  · have h0' : decide (0 ≤ f) = true := decide_eq_true h0
    by_cases h1 : f ≤ t
    · have h1' : decide (f ≤ t) = true := decide_eq_true h1
      cases b with
      | true =>
        rw [if_pos rfl, show decide (0 ≤ f ∧ f ≤ t ∧ t < (countL V : Int)) = decide (t < (countL V : Int)) from decide_eq_decide.2 ⟨fun h => h.2.2, fun h => ⟨h0, h1, h⟩⟩]
        go_enter Tryz.func56, Tryz.ntmps56
        obtain ⟨x0, x1, x2⟩ := K.out.now.1
        go_upto_region 2 with fail
        generalize w.alloc (.cells #[.int .i64 f, .int .i64 t, .bool true] 27) = wa at *
        clear x0 x1 x2
        go_region_held3 (fun w' => w'.cell? ⟨w.heap.size, 0, none⟩ = some (.int .i64 f) ∧ w'.cell? ⟨w.heap.size, 1, none⟩ = some (.int .i64 t) ∧ w'.cell? ⟨w.heap.size, 2, none⟩ = some (.bool true))
          (first
            | exact K2.out.now.1
            | exact K.out.now.1
            | exact (K.out.drewN 1).now.1)
          (first
            | (go_at_call 106; refine (refCount_any V hV _).mono ?_; rintro e w1 ⟨rfl, bb⟩; have K2 := Lib.hid ((K.out.drewN 1).step bb)))
        go_wp2_with fail
        go_ret
        exact ⟨rfl, K2.out.now.2⟩
      | false =>
        rw [if_neg (by decide), show decide (0 ≤ f ∧ f ≤ t ∧ t ≤ (V.length : Int)) = decide (t ≤ (V.length : Int)) from decide_eq_decide.2 ⟨fun h => h.2.2, fun h => ⟨h0, h1, h⟩⟩]
        go_enter Tryz.func56, Tryz.ntmps56
        obtain ⟨x0, x1, x2⟩ := K.out.now.1
        go_upto_region 3 with fail
        generalize w.alloc (.cells #[.int .i64 f, .int .i64 t, .bool false] 27) = wa at *
        go_wp2_with fail
        go_ret
        exact ⟨rfl, K.out.now.2⟩
    · have h1' : decide (f ≤ t) = false := decide_eq_false h1
      cases b with
      | true =>
        rw [if_pos rfl, decide_eq_false (fun h => h1 h.2.1)]
        go_enter Tryz.func56, Tryz.ntmps56
        obtain ⟨x0, x1, x2⟩ := K.out.now.1
        go_upto_region 2 with fail
        generalize w.alloc (.cells #[.int .i64 f, .int .i64 t, .bool true] 27) = wa at *
        go_quiet (fail)
        go_wp2_with fail
        go_ret
        exact ⟨rfl, (K.out.drewN _).now.2⟩
      | false =>
        rw [if_neg (by decide), decide_eq_false (fun h => h1 h.2.1)]
        go_enter Tryz.func56, Tryz.ntmps56
        obtain ⟨x0, x1, x2⟩ := K.out.now.1
        go_upto_region 3 with fail
        generalize w.alloc (.cells #[.int .i64 f, .int .i64 t, .bool false] 27) = wa at *
        go_wp2_with fail
        go_ret
        exact ⟨rfl, K.out.now.2⟩
  · have h0' : decide (0 ≤ f) = false := decide_eq_false h0
    cases b with
    | true =>
      rw [if_pos rfl, decide_eq_false (fun h => h0 h.1)]
      go_enter Tryz.func56, Tryz.ntmps56
      obtain ⟨x0, x1, x2⟩ := K.out.now.1
      go_upto_region 2 with fail
      generalize w.alloc (.cells #[.int .i64 f, .int .i64 t, .bool true] 27) = wa at *
      go_quiet (fail)
      go_wp2_with fail
      go_ret
      exact ⟨rfl, (K.out.drewN _).now.2⟩
    | false =>
      rw [if_neg (by decide), decide_eq_false (fun h => h0 h.1)]
      go_enter Tryz.func56, Tryz.ntmps56
      obtain ⟨x0, x1, x2⟩ := K.out.now.1
      go_upto_region 3 with fail
      generalize w.alloc (.cells #[.int .i64 f, .int .i64 t, .bool false] 27) = wa at *
      go_wp2_with fail
      go_ret
      exact ⟨rfl, K.out.now.2⟩
set_option maxHeartbeats 2000000 in
theorem refPBytes_any (V : List UInt8) (hV : V.length ≤ 1000000) (f t : Int) (b : Bool) (w : World) :
    Calls Tryz.prog 107 #[.string ⟨V.toArray⟩, .agg #[.int .i64 f, .int .i64 t, .bool b]] w fun e w' => e = .returned (.tuple #[.int .i64 (bytesM V f t b).1, .int .i64 (bytesM V f t b).2]) ∧ Below w.heap.size w w' := by
  have K := Lib.hid (rng_new w f t b)
  unfold bytesM
  cases b with
  | true =>
    rw [if_pos rfl]
    have HF := Lib.hid (fun wx => refBounds_any V hV f wx)
    have HT := Lib.hid (fun wx => refBounds_any V hV t wx)
    generalize boundsL V f = pf at *
    generalize boundsL V t = pt at *
    go_enter Tryz.func107, Tryz.ntmps107
    obtain ⟨x0, x1, x2⟩ := K.out.now.1
    go_upto_region 3 with fail
    generalize w.alloc (.cells #[.int .i64 f, .int .i64 t, .bool true] 27) = wa at *
    go_wp2_with (first
      | (go_at_call 71; refine use_factO b1 ?_; intro _; refine (HT.out _).mono ?_; rintro e w2 ⟨rfl, b2⟩; replace K := Lib.hid (K.out.step b2))
      | (go_at_call 71; refine (HF.out _).mono ?_; rintro e w1 ⟨rfl, b1⟩; replace K := Lib.hid (K.out.step b1); clear x0 x1 x2; obtain ⟨x0, x1, x2⟩ := K.out.now.1))
    go_ret2
    exact ⟨rfl, K.out.now.2⟩
  | false =>
    rw [if_neg (by decide)]
    go_enter Tryz.func107, Tryz.ntmps107
    obtain ⟨x0, x1, x2⟩ := K.out.now.1
    go_upto_region 2 with fail
    generalize w.alloc (.cells #[.int .i64 f, .int .i64 t, .bool false] 27) = wa at *
    go_quiet (fail)
    go_wp2_with fail
    go_ret2
    exact ⟨rfl, (K.out.drewN _).now.2⟩
set_option maxHeartbeats 2000000 in
theorem refPLines_any (V : List UInt8) (hV : V.length ≤ 1000000) (f t : Int) (b : Bool) (hf : 0 ≤ f) (hft : f ≤ t) (ht : t ≤ 1000000) (w : World) :
    Calls Tryz.prog 111 #[.string ⟨V.toArray⟩, .agg #[.int .i64 f, .int .i64 t, .bool b]] w fun e w' => e = .returned (.tuple #[.int .i64 (linesP V f t b).1, .int .i64 (linesP V f t b).2]) ∧ Below w.heap.size w w' := by
  have K := Lib.hid (rng_new w f t b)
  unfold linesP
  cases b with
  | true =>
    rw [if_pos rfl]
    go_enter Tryz.func111, Tryz.ntmps111
    obtain ⟨x0, x1, x2⟩ := K.out.now.1
    go_upto_region 2 with fail
    generalize w.alloc (.cells #[.int .i64 f, .int .i64 t, .bool true] 27) = wa at *
    go_quiet (fail)
    go_wp2_with fail
    go_ret2
    exact ⟨rfl, (K.out.drewN _).now.2⟩
  | false =>
    rw [if_neg (by decide)]
    have hf' : f ≤ 1000000 := by omega
    have TO : ∀ (p : Int) (wa : World), Hid (∀ w', Below wa.heap.size wa w' → Calls Tryz.prog 43 #[.string ⟨V.toArray⟩, .int .i64 p] w' fun e w'' => e = .returned (.int .i64 (ofL V p : Nat)) ∧ Below wa.heap.size wa w'' ∧ Below w'.heap.size w' w'') := fun p wa w' hb => by
      refine (refOf_any V hV p w').mono ?_
      rintro e w2 ⟨rfl, bb⟩
      exact ⟨rfl, hb.trans (bb.mono hb.size), bb⟩
    have HF := TO f
    have hw : IntKind.i64.wrap (t - 1) = t - 1 := by
      rcases (show t = 0 ∨ 1 ≤ t by omega) with rfl | h1
      · decide
      · exact wrap_small (t - 1) (by omega) (by omega)
    by_cases hm : f < t - 1
    · have HT := TO (t - 1)
      rw [show max f (t - 1) = t - 1 by omega]
      clear TO
      generalize ofL V f = pf at *
      generalize ofL V (t - 1) = pt at *
      go_enter Tryz.func111, Tryz.ntmps111
      obtain ⟨x0, x1, x2⟩ := K.out.now.1
      go_upto_region 3 with fail
      generalize w.alloc (.cells #[.int .i64 f, .int .i64 t, .bool false] 27) = wa at *
      clear x0 x1 x2
      have KS : Hid (∀ w', Below wa.heap.size wa w' → (w'.cell? ⟨w.heap.size, 0, none⟩ = some (.int .i64 f) ∧ w'.cell? ⟨w.heap.size, 1, none⟩ = some (.int .i64 t) ∧ w'.cell? ⟨w.heap.size, 2, none⟩ = some (.bool false)) ∧ Below wa.heap.size wa w') := fun w' hb => ⟨(K.out _ hb).1, hb⟩
      have hb0 : Below wa.heap.size wa wa := Below.refl _ _
      have hsz : w.heap.size ≤ wa.heap.size := K.out.now.2.size
      have HK := Lib.hid K.out.now.2
      go_region_held3 (fun w' => (w'.cell? ⟨w.heap.size, 0, none⟩ = some (.int .i64 f) ∧ w'.cell? ⟨w.heap.size, 1, none⟩ = some (.int .i64 t) ∧ w'.cell? ⟨w.heap.size, 2, none⟩ = some (.bool false)) ∧ Below wa.heap.size wa w')
        ((refine KS.out _ ?_; (repeat (first | assumption | refine below_dr ?_ | refine below_al ?_ (Nat.le_refl _))); done))
        (first
          | (go_at_call 43; (with_reducible refine ((HF wa).out _ ?_).mono ?_); (repeat (first | assumption | refine below_dr ?_ | refine below_al ?_ (Nat.le_refl _))); rintro e w2 ⟨rfl, hbx, hby⟩)
          | (go_at_call 43; (with_reducible refine ((HT wa).out _ ?_).mono ?_); (repeat (first | assumption | refine below_dr ?_ | refine below_al ?_ (Nat.le_refl _))); rintro e w2 ⟨rfl, hbx, hby⟩))
      all_goals go_wp2_with fail
      all_goals go_ret2
      all_goals exact ⟨rfl, HK.out.trans (hbx.mono hsz)⟩
    · rw [show max f (t - 1) = f by omega]
      have hm2 : (if f < t - 1 then t - 1 else f) = f := if_neg hm
      clear TO
      generalize ofL V f = pf at *
      go_enter Tryz.func111, Tryz.ntmps111
      obtain ⟨x0, x1, x2⟩ := K.out.now.1
      go_upto_region 3 with fail
      generalize w.alloc (.cells #[.int .i64 f, .int .i64 t, .bool false] 27) = wa at *
      clear x0 x1 x2
      have KS : Hid (∀ w', Below wa.heap.size wa w' → (w'.cell? ⟨w.heap.size, 0, none⟩ = some (.int .i64 f) ∧ w'.cell? ⟨w.heap.size, 1, none⟩ = some (.int .i64 t) ∧ w'.cell? ⟨w.heap.size, 2, none⟩ = some (.bool false)) ∧ Below wa.heap.size wa w') := fun w' hb => ⟨(K.out _ hb).1, hb⟩
      have hb0 : Below wa.heap.size wa wa := Below.refl _ _
      have hsz : w.heap.size ≤ wa.heap.size := K.out.now.2.size
      have HK := Lib.hid K.out.now.2
      go_region_held3 (fun w' => (w'.cell? ⟨w.heap.size, 0, none⟩ = some (.int .i64 f) ∧ w'.cell? ⟨w.heap.size, 1, none⟩ = some (.int .i64 t) ∧ w'.cell? ⟨w.heap.size, 2, none⟩ = some (.bool false)) ∧ Below wa.heap.size wa w')
        ((refine KS.out _ ?_; (repeat (first | assumption | refine below_dr ?_ | refine below_al ?_ (Nat.le_refl _))); done))
        (first
          | (go_at_call 43; (with_reducible refine ((HF wa).out _ ?_).mono ?_); (repeat (first | assumption | refine below_dr ?_ | refine below_al ?_ (Nat.le_refl _))); rintro e w2 ⟨rfl, hbx, hby⟩))
      all_goals go_wp2_with fail
      all_goals go_ret2
      all_goals exact ⟨rfl, HK.out.trans (hbx.mono hsz)⟩
end Go.Proofs.YtgpmfkedcoiopaaGreatDoor

/-
  The document's Span: layer 14.
-/
namespace Go.Proofs.YtgpmfkedcoiopaaGreatDoor
open Go.RowKit
set_option maxRecDepth 100000

theorem rng_var {w : World} {g T : Nat} {a b c : Value} (h : Blk w g T #[a, b, c]) :
    (w.cell? ⟨g, 0, none⟩ = some a ∧ w.cell? ⟨g, 1, none⟩ = some b ∧ w.cell? ⟨g, 2, none⟩ = some c ∧ w.frozen? ⟨g, 0, none⟩ = false ∧ w.frozen? ⟨g, 1, none⟩ = false ∧ w.frozen? ⟨g, 2, none⟩ = false) ∧
    ∀ x y z : Value, Blk (((w.setCell ⟨g, 0, none⟩ x).setCell ⟨g, 1, none⟩ y).setCell ⟨g, 2, none⟩ z) g T #[x, y, z] :=
  ⟨⟨h.cell 0, h.cell 1, h.cell 2, h.frozen 0, h.frozen 1, h.frozen 2⟩, fun x y z => by
    have := ((h.set_ 0 x).set_ 1 y).set_ 2 z
    simpa using this⟩
theorem set_three {w0 w : World} {B g : Nat} (h : Below B w0 w) (a b c : Value) (hg : B ≤ g := by omega) : Below B w0 (((w.setCell ⟨g, 0, none⟩ a).setCell ⟨g, 1, none⟩ b).setCell ⟨g, 2, none⟩ c) :=
  ((h.setCell (p := ⟨g, 0, none⟩) hg a).setCell (p := ⟨g, 1, none⟩) hg b).setCell (p := ⟨g, 2, none⟩) hg c
def spanM (S : List UInt8) (p q kind : Int) : Int × Int × Bool :=
  if kind = 2 then ((ofL S (min (alignM S p) (alignM S q) : Nat) : Nat), (ofL S (max (alignM S p) (alignM S q) : Nat) : Nat), true)
  else if kind = 1 then ((min (alignM S p) (alignM S q) : Nat), (nextM S (max (alignM S p) (alignM S q) : Nat) : Nat), false)
  else ((min (alignM S p) (alignM S q) : Nat), (max (alignM S p) (alignM S q) : Nat), false)
end Go.Proofs.YtgpmfkedcoiopaaGreatDoor

/-
  What an operator does, as a value and in memory: layer 14.
-/
namespace Go.Proofs.YtgpmfkedcoiopaaGreatDoor
open Go.RowKit
set_option maxRecDepth 100000

structure OutP where
  E : EdP
  RS : List UInt8
  rl : List RunP
  lines : Bool
  wide : Bool
  at_ : Int
def out0 : OutP := ⟨edit0, [], [], false, false, 0⟩
def GivesO (w : World) (r : OutP × Nat) (e : Ending) (w' : World) : Prop :=
  ∃ A c B d C g, e = .returned (.tuple #[.agg #[.int .i64 r.1.E.a, .string ⟨r.1.E.S.toArray⟩, .slice A r.1.E.l.length c, .string ⟨r.1.E.X.toArray⟩, .slice B r.1.E.m.length d, .string ⟨r.1.RS.toArray⟩, .slice C r.1.rl.length g, .bool r.1.lines, .bool r.1.wide, .int .i64 r.1.at_], .int .i64 (r.2 : Nat)]) ∧ Row w' w'.heap.size A (flatR r.1.E.l) ∧ Row w' w'.heap.size B (flatR r.1.E.m) ∧ Row w' w'.heap.size C (flatR r.1.rl) ∧ Below w.heap.size w w'
theorem out_facts : (∃ fs, Tryz.prog.underlying 47 = some (.struct fs)) ∧ (Tryz.prog.info? 47).map (·.size) = some 10 := ⟨⟨_, Tryz.underlying47⟩, by kernel_rfl⟩
theorem ret_out {fn : Func} {p u : Tmp} (h : fn.results = #[.cell p 47, .tmp u]) (a : Act) (w : World) (g : Nat) (cs : Array Value) (h10 : cs.size = 10) (hp : a.tmps.getD p undef = .pointer (some ⟨g, 0, none⟩)) (hg : Blk w g 47 cs) (hd : a.defers = [])
    {Q : Ending → World → Prop} (hQ : Q (.returned (.tuple #[.agg cs, a.tmps.getD u undef])) w) : bodyPost Tryz.prog fn Q .ret a w := by
  obtain ⟨⟨fs, hu⟩, hi⟩ := out_facts
  refine bodyPost_ret (v := .tuple #[.agg cs, a.tmps.getD u undef]) ?_ hd hQ
  have hp' : a.tmps[p]?.getD undef = .pointer (some ⟨g, 0, none⟩) := by simpa using hp
  rw [results_cell_tmp h]
  simp [hp', asAddr, run_loadVar_row w g 47 47 cs (0, 0) _ hg hu rfl (by rw [hi, h10])]
/-- many cells of a block stored, one after another -/
def setMany (w : World) (g : Nat) (us : List (Nat × Value)) : World := us.foldl (fun w p => w.setCell ⟨g, p.1, none⟩ p.2) w
section
variable {w w0 : World} {g T B : Nat} {cs : Array Value} {A : Option Addr} {xs : List Value}
theorem setMany_blk (h : Blk w g T cs) (us : List (Nat × Value)) : Blk (setMany w g us) g T (us.foldl (fun cs p => cs.setIfInBounds p.1 p.2) cs) := by
  induction us generalizing w cs with
  | nil => exact h
  | cons p us ih => exact ih (h.set_ p.1 p.2)
theorem setMany_below (h : Below B w0 w) (hg : B ≤ g) (us : List (Nat × Value)) : Below B w0 (setMany w g us) := by
  induction us generalizing w with
  | nil => exact h
  | cons p us ih => exact ih (h.setCell (p := ⟨g, p.1, none⟩) hg p.2)
theorem setMany_rowN (h : RowN w g A xs) (us : List (Nat × Value)) : RowN (setMany w g us) g A xs := by
  induction us generalizing w with
  | nil => exact h
  | cons p us ih => exact ih (h.set p.1 p.2)
/-- a text stays a text, and another block's cells stay, when cells of a block without labels are stored -/
theorem setMany_txu {S : List UInt8} {l : List RunP} (h : Txu w A S l) (hg : Blk w g T cs) (hn : NoLab cs) (us : List (Nat × Value)) : Txu (setMany w g us) A S l :=
  ⟨h.hS, h.hf, h.hl, (setMany_rowN (rowN_noLab h.row (Nat.le_refl _) hg hn) us).row⟩
theorem setMany_far {k : Nat} (h : Blk w k T cs) (hk : k ≠ g) (us : List (Nat × Value)) : Blk (setMany w g us) k T cs := by
  induction us generalizing w with
  | nil => exact h
  | cons p us ih => exact ih (h.far (p := ⟨g, p.1, none⟩) hk p.2)
end
theorem noLab_out {a z : Int} {s t r : ByteArray} {A B C : Option Addr} {i j k m n o : Nat} {b1 b2 : Bool} : NoLab #[.int .i64 a, .string s, .slice A i j, .string t, .slice B k m, .string r, .slice C n o, .bool b1, .bool b2, .int .i64 z] := by
  intro v hv n
  simp at hv
  rcases hv with rfl | rfl | rfl | rfl | rfl | rfl | rfl | rfl | rfl | rfl <;> simp
theorem out_cells {w : World} {g T : Nat} {v0 v1 v2 v3 v4 v5 v6 v7 v8 v9 : Value} (h : Blk w g T #[v0, v1, v2, v3, v4, v5, v6, v7, v8, v9]) :
    (w.cell? ⟨g, 0, none⟩ = some v0 ∧ w.cell? ⟨g, 1, none⟩ = some v1 ∧ w.cell? ⟨g, 2, none⟩ = some v2 ∧ w.cell? ⟨g, 3, none⟩ = some v3 ∧ w.cell? ⟨g, 4, none⟩ = some v4 ∧ w.cell? ⟨g, 5, none⟩ = some v5 ∧ w.cell? ⟨g, 6, none⟩ = some v6 ∧ w.cell? ⟨g, 7, none⟩ = some v7 ∧ w.cell? ⟨g, 8, none⟩ = some v8 ∧ w.cell? ⟨g, 9, none⟩ = some v9) ∧
    (w.frozen? ⟨g, 0, none⟩ = false ∧ w.frozen? ⟨g, 1, none⟩ = false ∧ w.frozen? ⟨g, 2, none⟩ = false ∧ w.frozen? ⟨g, 3, none⟩ = false ∧ w.frozen? ⟨g, 4, none⟩ = false ∧ w.frozen? ⟨g, 5, none⟩ = false ∧ w.frozen? ⟨g, 6, none⟩ = false ∧ w.frozen? ⟨g, 7, none⟩ = false ∧ w.frozen? ⟨g, 8, none⟩ = false ∧ w.frozen? ⟨g, 9, none⟩ = false) :=
  ⟨⟨h.cell 0, h.cell 1, h.cell 2, h.cell 3, h.cell 4, h.cell 5, h.cell 6, h.cell 7, h.cell 8, h.cell 9⟩, h.frozen 0, h.frozen 1, h.frozen 2, h.frozen 3, h.frozen 4, h.frozen 5, h.frozen 6, h.frozen 7, h.frozen 8, h.frozen 9⟩
theorem out_ten {w : World} {g T : Nat} {v0 v1 v2 v3 v4 v5 v6 v7 v8 v9 : Value} (h : Blk w g T #[v0, v1, v2, v3, v4, v5, v6, v7, v8, v9]) (u0 u1 u2 u3 u4 u5 u6 u7 u8 u9 : Value) :
    Blk (setMany w g [(0, u0), (1, u1), (2, u2), (3, u3), (4, u4), (5, u5), (6, u6), (7, u7), (8, u8), (9, u9)]) g T #[u0, u1, u2, u3, u4, u5, u6, u7, u8, u9] := by
  have := setMany_blk h [(0, u0), (1, u1), (2, u2), (3, u3), (4, u4), (5, u5), (6, u6), (7, u7), (8, u8), (9, u9)]
  simpa using this
theorem out_five {w : World} {g T : Nat} {v0 v1 v2 v3 v4 v5 v6 v7 v8 v9 : Value} (h : Blk w g T #[v0, v1, v2, v3, v4, v5, v6, v7, v8, v9]) (u0 u1 u2 u3 u4 : Value) :
    Blk (setMany w g [(0, u0), (1, u1), (2, u2), (3, u3), (4, u4)]) g T #[u0, u1, u2, u3, u4, v5, v6, v7, v8, v9] := by
  have := setMany_blk h [(0, u0), (1, u1), (2, u2), (3, u3), (4, u4)]
  simpa using this
/-- what takenM, and others, say of d, y and c -/
def takenM (S : List UInt8) (l : List RunP) (V : List UInt8) (y : Nat) (op f t : Int) (b : Bool) : OutP × Nat :=
  let p := bytesM V f t b
  let x := (cutOf S l p.1 p.2).1
  let wide := b || decide (1 < countL ((V.drop p.1.toNat).take (p.2.toNat - p.1.toNat)))
  if op = 121 then (⟨⟨p.1, [], [], [], []⟩, x.1, x.2, b, wide, p.1⟩, 0)
  else if op = 100 ∧ b = true then
    (⟨(turnedM S l y (wholeL V f t).1.1 (wholeL V f t).1.2 [] [] true).1.1, x.1, x.2, b, wide, (firstL (turnedM S l y (wholeL V f t).1.1 (wholeL V f t).1.2 [] [] true).1.2 f : Nat)⟩, 0)
  else (⟨(turnedM S l y p.1 p.2 [] [] true).1.1, x.1, x.2, b, wide, p.1⟩, 0)
end Go.Proofs.YtgpmfkedcoiopaaGreatDoor

/-
  What a level sees of texts one behind the other, and of what is raised above it (over what strip says): layer 4.
-/
import Derived.Test.YtliapookpefgiaaM04s
import Derived.Test.YtliapookpefgiaaSeesMath
import Derived.Test.YtliapookpefgiaaTextsOpen
import Derived.Test.YtliapookpefgiaaTextSet
namespace Go.Proofs.Ytliapookpefgiaa
open Go.RowKit

theorem byte_hid {a : UInt8} (h : a = 35) : ((a.toNat : Int) != 35) = false := by subst h; rfl
theorem alive_top : makeOf [97, 98] 2 = (([97, 98], [(2, 2)]), 0) ∧ viewOf [97, 98] [(2, 2)] 1 = ([35, 35], 0) ∧ goodT [97, 98] [(2, 2)] = true :=
  ⟨by decide +kernel, by decide +kernel, by decide +kernel⟩

set_option maxHeartbeats 1000000 in
theorem topAlive_any (SS : StripSays) (w : World) : Calls Try.prog 36 #[] w fun e w' => e = .returned (.bool true) ∧ Below w.heap.size w w' := by
  have HS := Lib.hid SS
  clear SS
  have HA := Lib.hid alive_top
  have F1 : Hid (Fits [(2, 2)]) := by intro r hr; simp at hr; subst hr; simp
  go_enter Try.func36, Try.ntmps36
  go_wp2_with fail
  refine (HS.out.make [97, 98] 2 w (by simp [maxLen]) (by decide)).mono ?_
  rw [HA.out.1]
  rintro e w1 ⟨A1, c1, rfl, r1, b1⟩
  dsimp only at r1 ⊢
  have z1 := b1.size
  obtain ⟨x1, s1⟩ := new_var w1 (.string ⟨#[97, 98]⟩) (.slice A1 1 c1)
  have X1 := Lib.hid x1
  have S1 := Lib.hid s1
  have B1 : Hid (Below w.heap.size w (w1.alloc (.cells #[.string ⟨#[97, 98]⟩, .slice A1 1 c1] 24))) := b1.alloc z1 _
  have T1 := Lib.hid ((txt_small r1 (S := [97, 98]) (by simp) (by simp) F1.out).below (w' := w1.alloc (.cells #[.string ⟨#[97, 98]⟩, .slice A1 1 c1] 24)) ((Below.refl _ _).alloc (Nat.le_refl _) _))
  clear x1 s1 b1 r1
  go_wp2_with (first
    | (go_at_call 29; refine (HS.out.view A1 c1 w1.heap.size [97, 98] [(2, 2)] 1 _ (by rw [S1.out]; omega) T1.out (by decide)).mono ?_; rw [HA.out.2.1]; rintro e w2 ⟨rfl, b2⟩; dsimp only; have z2 : w1.heap.size + 1 ≤ w2.heap.size := by {have := b2.size; rw [S1.out] at this; exact this}; have B2 := B1.out.trans (b2.mono (by rw [S1.out]; omega)); have X2 := Lib.hid (X1.out.below b2 (by rw [S1.out]; omega)); have T2 := Lib.hid (T1.out.below (b2.mono (by rw [S1.out]; omega))); obtain ⟨y0, y1⟩ := txt_cells X2.out; clear b2)
    | (go_at_call 17; refine (HS.out.good A1 c1 w1.heap.size [97, 98] [(2, 2)] w2 (by omega) T2.out).mono ?_; rw [HA.out.2.2]; rintro e w3 ⟨rfl, b3⟩))
  go_ret
  exact ⟨rfl, B2.trans (b3.mono (by omega))⟩

/-- all that is kept while the texts are put together -/
structure SeesK (w0 wr : World) (g5 : Nat) (A : Option Addr) (c : Nat) (U : List UInt8) (q : List RunP) : Prop where
  blk : Blk wr g5 24 #[.string ⟨U.toArray⟩, .slice A q.length c]
  txt : Txt wr wr.heap.size A U q
  good : goodT U q = true
  bl : Below g5 w0 wr
section
variable {w0 wr w' : World} {g5 : Nat} {A : Option Addr} {c : Nat} {U : List UInt8} {q : List RunP}
theorem SeesK.step (h : SeesK w0 wr g5 A c U q) (hb : Below wr.heap.size wr w') : SeesK w0 w' g5 A c U q :=
  ⟨h.blk.below hb h.blk.lt, (h.txt.below hb).more hb.size, h.good, h.bl.trans (hb.mono (Nat.le_of_lt h.blk.lt))⟩
theorem SeesK.alloc (h : SeesK w0 wr g5 A c U q) (o : Obj) : SeesK w0 (wr.alloc o) g5 A c U q := h.step ((Below.refl _ _).alloc (Nat.le_refl _) o)
end

set_option maxRecDepth 8000 in
set_option maxHeartbeats 4000000 in
theorem wholeSees_walk (SS : StripSays) (w : World) (A : Option Addr) (c : Nat) (ts : List TextP) (hlen : ts.length ≤ maxLen) (hT : ∀ r ∈ ts, Txt w w.heap.size r.A r.S r.l) (row : Row w w.heap.size A (flatX ts)) (y : Nat) (hy : y < 18446744073709551616) :
    Calls Try.prog 11 #[.slice A ts.length c, .int .u64 y] w fun e w' => e = .returned (.bool true) ∧ Below w.heap.size w w' := by
  have HS := Lib.hid SS
  have HT := Lib.hid hT
  clear SS hT
  unfold maxLen at hlen
  by_cases hn : 40 < ts.length
  · have hn' : (40 : Int) < (ts.length : Int) := by omega
    go_enter Try.func11, Try.ntmps11
    go_wp2_with (go_at_call 36; refine (topAlive_any HS.out _).mono ?_; rintro e w1 ⟨rfl, b1⟩)
    go_ret
    exact ⟨rfl, b1⟩
  · have hn' : ¬ (40 : Int) < (ts.length : Int) := by omega
    go_enter Try.func11, Try.ntmps11
    go_wp2_with (go_at_call 36; refine (topAlive_any HS.out _).mono ?_; rintro e w1 ⟨rfl, b1⟩)
    have z1 := b1.size
    have Q1 := Lib.hid (Blk.new w1 24 #[.string ⟨#[]⟩, .slice none 0 0])
    have B1 := Lib.hid ((Below.refl w1.heap.size w1).alloc (Nat.le_refl _) (.cells #[.string ⟨#[]⟩, .slice none 0 0] 24))
    have B0 := Lib.hid b1
    have ROW := Lib.hid (row.below b1)
    have HT1 : Hid (∀ r ∈ ts, ∀ w', Below w1.heap.size w1 w' → Txt w' w.heap.size r.A r.S r.l) := fun r hr w' hb => (HT.out r hr).below (B0.out.trans (hb.mono z1))
    clear row b1 HT
    go_loopw [6, 30] (fun v i wr => ∃ (k : Nat) (U : List UInt8) (q : List RunP) (A5 : Option Addr) (c5 : Nat), k ≤ ts.length ∧ i = .int .i64 k ∧ v = .string ⟨(viewTo U (bytesOf q) y).toArray⟩ ∧ SeesK w1 wr w1.heap.size A5 c5 U q) (fun _ i _ => ts.length - (intOf i).toNat)
    case atStart => exact ⟨0, [], [], none, 0, Nat.zero_le _, rfl, rfl, Q1.out, ⟨by simp, fun r hr => by simp at hr, by simp, .inl rfl⟩, by decide, B1.out⟩
    case round =>
      obtain ⟨k, U, q, A5, c5, hk, rfl, rfl, KK⟩ := hrel
      have HK := Lib.hid KK
      have zr := KK.blk.lt
      clear KK
      by_cases hlt : k < ts.length
      · obtain ⟨ad, rfl, hbl, d0, d1⟩ := text_at (ROW.out.below (HK.out.bl.mono z1)) hlt
        have HTK := Lib.hid (HT1.out ts[k] (List.getElem_mem hlt))
        generalize ts[k] = r at *
        obtain ⟨S, A', c', l⟩ := r
        dsimp only at d0 d1 HTK
        have HTS : Hid (S.length ≤ maxLen ∧ l.length ≤ maxLen) := ⟨(HTK.out w1 (Below.refl _ _)).hS, (HTK.out w1 (Below.refl _ _)).hl⟩
        have X0 := Lib.hid (Blk.new wr 24 #[.string ⟨S.toArray⟩, .slice A' l.length c'])
        have K0 := Lib.hid (HK.out.alloc (.cells #[.string ⟨S.toArray⟩, .slice A' l.length c'] 24))
        have Z0 : Hid ((wr.alloc (.cells #[.string ⟨S.toArray⟩, .slice A' l.length c'] 24)).heap.size = wr.heap.size + 1) := by show _ = _; simp
        by_cases hfit : S.length ≤ 5000 ∧ l.length ≤ 5000
        · by_cases hg : goodT S l = true
          · have HC := Lib.hid (catT_two HK.out.good hg)
            by_cases hb : U.length + S.length ≤ 4096
            · rw [if_pos hb] at HC
              have HGV := Lib.hid (goodT_two HK.out.good hg hb)
              have HVV : Hid (viewTo (U ++ S) (bytesOf (pack (bytesOf q ++ bytesOf l))) y = viewTo U (bytesOf q) y ++ viewTo S (bytesOf l) y) := by
                show _ = _
                rw [bytesOf_pack, viewTo_append (goodT_size HK.out.good).2.2]
              have HOV : Hid (OkT ((U ++ S, pack (bytesOf q ++ bytesOf l)), 0)) := by
                show OkT _
                rw [← HC.out]; exact okT_cat HK.out.txt.hf (HTK.out w1 (Below.refl _ _)).hf
              have HL1 : Hid ((viewTo U (bytesOf q) y).length ≤ 4096) := by show _ ≤ _; rw [viewTo_len (goodT_size HK.out.good).2.2]; exact (goodT_size HK.out.good).1
              have HL2 : Hid ((viewTo S (bytesOf l) y).length ≤ 4096) := by show _ ≤ _; rw [viewTo_len (goodT_size hg).2.2]; exact (goodT_size hg).1
              have HVS := Lib.hid (viewOf_good hg y)
              generalize pack (bytesOf q ++ bytesOf l) = Q at *
              generalize U ++ S = V at *
              generalize viewTo U (bytesOf q) y = E1 at *
              generalize viewTo S (bytesOf l) y = E2 at *
              have hl1 := HL1.out
              have hl2 := HL2.out
              have x5 : ¬ 9223372036854775807 < E1.length + E2.length := by omega
              clear HL1 HL2
              go_wp2_with (first
                | (go_at_call 13; refine (lawFits_any S HTS.out.1 l HTS.out.2 A' c' _).mono ?_; rw [decide_eq_true hfit]; rintro e w2 ⟨rfl, b2⟩; have z2 : wr.heap.size + 1 ≤ w2.heap.size := by {have := b2.size; rw [Z0.out] at this; exact this}; have K2 := Lib.hid (K0.out.step b2); have X2 := Lib.hid (X0.out.below b2 X0.out.lt); clear b2; obtain ⟨y0, y1⟩ := txt_cells X2.out)
                | (go_at_call 18; refine (refTGood_any A' c' w.heap.size S l w2 (by omega) (HTK.out w2 K2.out.bl)).mono ?_; rw [hg]; rintro e w3 ⟨rfl, b3⟩; have z3 := b3.size; have K3 := Lib.hid (K2.out.step b3); have X3 := Lib.hid (X2.out.below b3 X2.out.lt); clear b3 y0 y1; obtain ⟨y0, y1⟩ := txt_cells X3.out; obtain ⟨t0, t1⟩ := txt_cells K3.out.blk)
                | (go_at_call 23; refine (HS.out.cat A5 A' c5 c' w3.heap.size w.heap.size U S q l w3 (Nat.le_refl _) (by omega) K3.out.txt (HTK.out w3 K3.out.bl)).mono ?_; rw [HC.out]; rintro e w4 ⟨A6, c6, rfl, r6, b6⟩; dsimp only at r6 ⊢; have z6 := b6.size; have K4 := Lib.hid ((K3.out.step b6).alloc (.cells #[.string ⟨V.toArray⟩, .slice A6 Q.length c6] 24)); have X4 := Lib.hid ((X3.out.below b6 X3.out.lt).alloc (.cells #[.string ⟨V.toArray⟩, .slice A6 Q.length c6] 24)); have Y4 := Lib.hid (Blk.new w4 24 #[.string ⟨V.toArray⟩, .slice A6 Q.length c6]); have T4 := Lib.hid (((HOV.out.txt (w := w4) (B := w4.heap.size) (A := A6) r6).below ((Below.refl _ _).alloc (Nat.le_refl _) (.cells #[.string ⟨V.toArray⟩, .slice A6 Q.length c6] 24))).more (B' := (w4.alloc (.cells #[.string ⟨V.toArray⟩, .slice A6 Q.length c6] 24)).heap.size) (by simp)); clear y0 y1 t0 t1 r6 b6; obtain ⟨y0, y1⟩ := txt_cells X4.out)
                | (go_at_call 29; refine (HS.out.view A' c' w.heap.size S l y _ (by have := K4.out.blk.lt; omega) (HTK.out _ K4.out.bl) hy).mono ?_; rw [HVS.out]; rintro e w7 ⟨rfl, b7⟩; dsimp only; have K7 := Lib.hid (K4.out.step b7); have Y7 := Lib.hid (Y4.out.below b7 Y4.out.lt); have T7 := Lib.hid ((T4.out.below b7).more b7.size); clear y0 y1 b7; obtain ⟨y0, y1⟩ := txt_cells Y7.out; obtain ⟨t0, t1, t2, t3⟩ := txt_var K7.out.blk))
              rw [text_two, ← HVV.out]
              refine ⟨⟨k + 1, V, Q, A6, c6, by omega, by go_num, rfl, ⟨blk_two K7.out.blk _ _, ?_, HGV.out, (K7.out.bl.setCell (Nat.le_refl _) _).setCell (Nat.le_refl _) _⟩⟩, by simp [intOf]; omega⟩
              have := T7.out.setV K7.out.blk (.string ⟨V.toArray⟩) (.slice A6 Q.length c6)
              simpa using this
            · rw [if_neg hb] at HC
              have x6 : ¬ (U.length : Int) + (S.length : Int) ≤ 4096 := by omega
              have hu := HK.out.txt.hS
              have hs := HTS.out.1
              unfold maxLen at hu hs
              have x7 : (U.length : Int) + (S.length : Int) ≤ 9223372036854775807 := by have := (goodT_size HK.out.good).1; omega
              go_wp2_with (first
                | (go_at_call 13; refine (lawFits_any S HTS.out.1 l HTS.out.2 A' c' _).mono ?_; rw [decide_eq_true hfit]; rintro e w2 ⟨rfl, b2⟩; have z2 : wr.heap.size + 1 ≤ w2.heap.size := by {have := b2.size; rw [Z0.out] at this; exact this}; have K2 := Lib.hid (K0.out.step b2); have X2 := Lib.hid (X0.out.below b2 X0.out.lt); clear b2; obtain ⟨y0, y1⟩ := txt_cells X2.out)
                | (go_at_call 18; refine (refTGood_any A' c' w.heap.size S l w2 (by omega) (HTK.out w2 K2.out.bl)).mono ?_; rw [hg]; rintro e w3 ⟨rfl, b3⟩; have z3 := b3.size; have K3 := Lib.hid (K2.out.step b3); have X3 := Lib.hid (X2.out.below b3 X2.out.lt); clear b3 y0 y1; obtain ⟨y0, y1⟩ := txt_cells X3.out; obtain ⟨t0, t1⟩ := txt_cells K3.out.blk)
                | (go_at_call 23; refine (HS.out.cat A5 A' c5 c' w3.heap.size w.heap.size U S q l w3 (Nat.le_refl _) (by omega) K3.out.txt (HTK.out w3 K3.out.bl)).mono ?_; rw [HC.out]; rintro e w4 ⟨A6, c6, rfl, r6, b6⟩; dsimp only; have z6 := b6.size; have K4 := Lib.hid ((K3.out.step b6).alloc (.cells #[.string ⟨#[]⟩, .slice A6 0 c6] 24)); have X4 := Lib.hid ((X3.out.below b6 X3.out.lt).alloc (.cells #[.string ⟨#[]⟩, .slice A6 0 c6] 24)); clear y0 y1 t0 t1 r6 b6; obtain ⟨y0, y1⟩ := txt_cells X4.out; obtain ⟨t0, t1⟩ := txt_cells K4.out.blk))
              go_roundw
              case rel => exact ⟨k + 1, U, q, A5, c5, by omega, by go_num, rfl, K4.out⟩
              case measure => simp [intOf]; omega
          · have hg' : goodT S l = false := by simpa using hg
            clear hg
            go_wp2_with (first
              | (go_at_call 13; refine (lawFits_any S HTS.out.1 l HTS.out.2 A' c' _).mono ?_; rw [decide_eq_true hfit]; rintro e w2 ⟨rfl, b2⟩; have z2 : wr.heap.size + 1 ≤ w2.heap.size := by {have := b2.size; rw [Z0.out] at this; exact this}; have K2 := Lib.hid (K0.out.step b2); have X2 := Lib.hid (X0.out.below b2 X0.out.lt); clear b2; obtain ⟨y0, y1⟩ := txt_cells X2.out)
              | (go_at_call 18; refine (refTGood_any A' c' w.heap.size S l w2 (by omega) (HTK.out w2 K2.out.bl)).mono ?_; rw [hg']; rintro e w3 ⟨rfl, b3⟩; have z3 := b3.size; have K3 := Lib.hid (K2.out.step b3); have X3 := Lib.hid (X2.out.below b3 X2.out.lt); clear b3 y0 y1; obtain ⟨y0, y1⟩ := txt_cells X3.out; obtain ⟨t0, t1⟩ := txt_cells K3.out.blk))
            go_roundw
            case rel => exact ⟨k + 1, U, q, A5, c5, by omega, by go_num, rfl, K3.out⟩
            case measure => simp [intOf]; omega
        · go_wp2_with (first
            | (go_at_call 13; refine (lawFits_any S HTS.out.1 l HTS.out.2 A' c' _).mono ?_; rw [decide_eq_false hfit]; rintro e w2 ⟨rfl, b2⟩; have z2 : wr.heap.size + 1 ≤ w2.heap.size := by {have := b2.size; rw [Z0.out] at this; exact this}; have K2 := Lib.hid (K0.out.step b2); have X2 := Lib.hid (X0.out.below b2 X0.out.lt); clear b2; obtain ⟨y0, y1⟩ := txt_cells X2.out))
          go_roundw
          case rel => exact ⟨k + 1, U, q, A5, c5, by omega, by go_num, rfl, K2.out⟩
          case measure => simp [intOf]; omega
      · obtain rfl : k = ts.length := by omega
        obtain ⟨t0, t1⟩ := txt_cells HK.out.blk
        have HVU := Lib.hid (viewOf_good HK.out.good y)
        have hlen5 := (goodT_size HK.out.good).2.2
        by_cases hful : y = 18446744073709551615
        · subst hful
          have HF := Lib.hid (viewTo_full hlen5 (bytesOf_mem HK.out.txt.hf))
          rw [HF.out] at HVU
          rw [HF.out]
          clear HF hlen5
          go_wp2_with (go_at_call 29; refine (HS.out.view A5 c5 wr.heap.size U q 18446744073709551615 wr (Nat.le_refl _) HK.out.txt (by decide)).mono ?_; rw [HVU.out]; rintro e w2 ⟨rfl, b2⟩; dsimp only; have K2 := Lib.hid (HK.out.step b2); clear t0 t1; obtain ⟨t0, t1⟩ := txt_cells K2.out.blk)
          go_ret
          exact ⟨rfl, B0.out.trans (K2.out.bl.mono z1)⟩
        · have HRA := Lib.hid (raiseT_good HK.out.good (notN y))
          have HGA := Lib.hid (goodT_above HK.out.good (notN y))
          have HVA : Hid (viewOf U (pack ((bytesOf q).map fun x => x ||| notN y)) y = (List.replicate U.length 35, 0)) := by
            show _ = _
            rw [viewOf_good HGA.out, bytesOf_pack, viewTo_above hlen5 hy hful]
          have HOA : Hid (OkT ((U, pack ((bytesOf q).map fun x => x ||| notN y)), 0)) := by
            show OkT _
            rw [← HRA.out]; exact okT_raise HK.out.txt.hf (notN_lt y)
          have HLV := Lib.hid (viewTo_len (y := y) hlen5)
          have hne : ((y : Int) == 18446744073709551615) = false := by simp; omega
          have hUL := (goodT_size HK.out.good).1
          generalize pack ((bytesOf q).map fun x => x ||| notN y) = Q at *
          generalize viewTo U (bytesOf q) y = V at *
          clear hlen5 hful
          have hvl := HLV.out
          have HRE : Hid (∀ (k : Nat) (h : k < (List.replicate U.length (35 : UInt8)).length), (List.replicate U.length (35 : UInt8))[k] = 35) := fun k h => List.getElem_replicate ..
          have hrl : (List.replicate U.length (35 : UInt8)).length = U.length := List.length_replicate
          generalize List.replicate U.length (35 : UInt8) = R at *
          go_wp2_with (first
            | (go_at_call_of 29 q; refine (HS.out.view A5 c5 wr.heap.size U q y wr (Nat.le_refl _) HK.out.txt hy).mono ?_; rw [HVU.out]; rintro e w2 ⟨rfl, b2⟩; dsimp only; have K2 := Lib.hid (HK.out.step b2); clear t0 t1; obtain ⟨t0, t1⟩ := txt_cells K2.out.blk)
            | (go_at_call 25; rw [level_not y hy]; refine (HS.out.raise A5 c5 w2.heap.size U q (notN y) w2 (Nat.le_refl _) K2.out.txt (notN_lt y)).mono ?_; rw [HRA.out]; rintro e w3 ⟨A6, c6, rfl, r6, b6⟩; dsimp only at r6 ⊢; have K3 := Lib.hid ((K2.out.step b6).alloc (.cells #[.string ⟨U.toArray⟩, .slice A6 Q.length c6] 24)); have Y3 := Lib.hid (Blk.new w3 24 #[.string ⟨U.toArray⟩, .slice A6 Q.length c6]); have T3 := Lib.hid (((HOA.out.txt (w := w3) (B := w3.heap.size) (A := A6) r6).below ((Below.refl _ _).alloc (Nat.le_refl _) (.cells #[.string ⟨U.toArray⟩, .slice A6 Q.length c6] 24))).more (B' := (w3.alloc (.cells #[.string ⟨U.toArray⟩, .slice A6 Q.length c6] 24)).heap.size) (by simp)); clear t0 t1 r6 b6; obtain ⟨y0, y1⟩ := txt_cells Y3.out)
            | (go_at_call_of 29 Q; refine (HS.out.view A6 c6 _ U Q y _ (Nat.le_refl _) T3.out hy).mono ?_; rw [HVA.out]; rintro e w4 ⟨rfl, b4⟩; dsimp only; have K4 := Lib.hid (K3.out.step b4); clear y0 y1 b4))
          go_loopw [118] (fun i wx => ∃ k : Nat, k ≤ U.length ∧ i = .int .i64 k ∧ Below w4.heap.size w4 wx) (fun i _ => U.length - (intOf i).toNat)
          case atStart => exact ⟨0, Nat.zero_le _, rfl, Below.refl _ _⟩
          case round =>
            obtain ⟨k, hk, rfl, hb⟩ := hrel
            by_cases hlt2 : k < U.length
            · have dR : k < (⟨R.toArray⟩ : ByteArray).size := by simp [ByteArray.size]; omega
              have c1 : (((((⟨R.toArray⟩ : ByteArray)[k]'dR).toNat : Int)) != 35) = false := byte_hid (HRE.out k (by omega))
              go_wp2
              go_roundw
              case rel => exact ⟨k + 1, by omega, by go_num, hb⟩
              case measure => simp [intOf]; omega
            · obtain rfl : k = U.length := by omega
              go_wp2
              go_ret
              exact ⟨rfl, (B0.out.trans (K4.out.bl.mono z1)).trans (hb.mono (by have := K4.out.blk.lt; omega))⟩
end Go.Proofs.Ytliapookpefgiaa

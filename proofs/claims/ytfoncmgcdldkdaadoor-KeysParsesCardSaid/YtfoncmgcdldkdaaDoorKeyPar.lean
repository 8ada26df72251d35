/-
  The landed Parse.
-/
import Derived.Test.YtfoncmgcdldkdaaDoorKeyWay
import Derived.Test.YtfoncmgcdldkdaaDoorUtfRange
namespace Go.Proofs.YtfoncmgcdldkdaaDoor
open Go.RowKit

def natz (l : List Nat) : List Value := (l.map fun x : Nat => (x : Int)).map runz
theorem natz_snoc (l : List Nat) (r : Nat) : natz (l ++ [r]) = natz l ++ [.int .i32 (r : Int)] := by simp [natz, runz]
set_option maxRecDepth 100000 in
set_option maxHeartbeats 4000000 in
theorem keyParse_any (S : List UInt8) (hS : S.length ≤ 1000000) (w : World) (hn : NamedW w) : Calls Tryd.prog 13 #[.string ⟨S.toArray⟩] w (GivesLN w (parseA S)) := by
  have HN : Hid (∀ wx, Below w.heap.size w wx → NamedW wx) := fun wx hb => hn.below hb (Nat.le_refl _)
  clear hn
  go_enter Tryd.func13, Tryd.ntmps13
  go_wp2_with ((with_reducible refine at_range 9 _ ?_); refine wpList_rangeStr rfl 9 _ rfl Tryd.underlying9 S rfl ?_; intro w1 g hg hit hb1)
  go_frame
  go_loopw [4, 5] (fun v e wr => ∃ (p pos n : Nat) (L : List Nat) (A : Option Addr) (c : Nat), v = .slice A n c ∧ e = .int .i64 p ∧ pos ≤ p ∧ p ≤ S.length ∧ n ≤ 257 ∧ Hid (n = (L.take 257).length) ∧ Hid (ReadK S L p) ∧ Hid (Reach S pos p) ∧ Iter wr g S pos ∧ Hid (wr.ownsRow w.heap.size 21 1 (.slice A n c) n (natz (L.take 257))) ∧ Below w.heap.size w wr) (fun _ _ wr => S.length - wr.iterPos g)
  case atStart => exact ⟨0, 0, 0, [], none, 0, rfl, rfl, Nat.le_refl _, Nat.zero_le _, by omega, rfl, readK_start S, .here 0, hit, World.ownsRow_nil _ _ _ _, hb1⟩
  case round =>
    clear hit hb1
    obtain ⟨p, pos, n, L, A, c, rfl, rfl, hpp, hpl, hn, HL, HR, HW, hit, HO, hb⟩ := hrel
    have hip : wr.iterPos g = pos := by unfold World.iterPos; rw [hit]
    have HIP := Lib.hid hip
    clear hip
    have z := hb.size
    have HNR := Lib.hid (hit.not_row HO.out)
    by_cases hlt : pos < S.length
    · have hdp := dec_pos (S.drop pos)
      have hdr := dec_rune (S.drop pos)
      by_cases hpq : pos = p
      · subst hpq
        have hnl : ¬ (pos : Int) < (pos : Int) := by omega
        have HBD := Lib.hid (fun ho => HR.out.bad hlt ho)
        have HWY := Lib.hid (fun r ho => HR.out.way (r := r) ho hlt)
        have HSP := Lib.hid (fun r ho => HR.out.step (r := r) ho)
        have hp0 : (0 : Int) ≤ (pos : Int) := by omega
        have hp1 : (pos : Int) ≤ (S.length : Int) := by omega
        have hlen : (S.drop pos).length ≤ 1000000 := by rw [List.length_drop]; omega
        go_upto_region 9 with (first
          | ((with_reducible refine at_next _ true ?_); refine wpList_nextStr rfl _ rfl g rfl S pos hit hlt ?_; intro w2 hit2 hg2; have HO2 := Lib.hid (HO.out.kept hg2 (.inr HNR.out)); have b2 := hb.grown hg2 z (fun k hk => by injection hk with hk; omega))
          | (go_at_call 22; rw [text_back]; refine (keyMeant_any _ hlen _ (by omega) _ (HN.out _ b2)).mono ?_; rintro e w3 ⟨m, rfl, hm, b3⟩; have HM := Lib.hid hm; have hmb := hm.bound; clear hm))
        generalize S.drop pos = T at *
        have z2 := hg2.size
        have z3 := b3.size
        have hit3 := hit2.below b3 hit2.lt
        have HO3 := Lib.hid (own_keep HO2.out b3 (Nat.le_refl _))
        have b3' := b2.trans (b3.mono b2.size)
        clear HO2 hit2 hit hb HO b2 hg2
        go_upto_region 10 with (go_at_call 19; refine (keyWritten_any m hmb _ (HN.out _ b3')).mono ?_; rintro e w4 ⟨F, rfl, hFl, hF, b4⟩; have HF := Lib.hid hF; clear hF)
        have z4 := b4.size
        have hit4 := hit3.below b4 hit3.lt
        have HO4 := Lib.hid (own_keep HO3.out b4 (Nat.le_refl _))
        have b4' := b3'.trans (b4.mono b3'.size)
        have z4' := b4'.size
        clear HO3 hit3 b3' b3 b4
        have hFl' : F.length ≤ 1000000 := by omega
        by_cases hk : keyK m
        · have hk2 := decide_eq_true hk
          rcases hp : F.isPrefixOf T with _ | _
          · have HP := Lib.hid (HBD.out (meant_no HM.out HF.out (fun _ => hp)))
            clear hk
            go_wp2_with (first
              | (go_at_call 8; refine (keyMay_any m hmb _).mono ?_; rw [hk2]; rintro e w5 ⟨rfl, hw⟩; subst w5)
              | (go_at_call 23; refine (keyHas_any T F hlen hFl' _).mono ?_; rw [hp]; rintro e w6 ⟨rfl, hw⟩; subst w6))
            go_ret2
            rw [HP.out]
            exact ⟨none, 0, rfl, .inl rfl, b4'⟩
          · obtain ⟨x, rfl, rfl, ho⟩ := meant_yes hk HF.out hp
            have HS := Lib.hid (HSP.out x ho)
            have HY := Lib.hid (HWY.out x ho)
            have hle := HS.out.le
            have hyl := HY.out.le
            clear hk ho
            by_cases hn6 : n ≤ 256
            · have hn6' : (n : Int) ≤ 256 := by omega
              have HLM : Hid (L.length ≤ 256) := by
                have := HL.out
                rw [List.length_take] at this
                show L.length ≤ 256
                omega
              have HT := Lib.hid (take_more L x HLM.out)
              go_wp2_with (first
                | (go_at_call 8; refine (keyMay_any (x : Int) hmb _).mono ?_; rw [hk2]; rintro e w5 ⟨rfl, hw⟩; subst w5)
                | (go_at_call 23; refine (keyHas_any T (writK x) hlen hFl' _).mono ?_; rw [hp]; rintro e w6 ⟨rfl, hw⟩; subst w6)
                | (at_builtin; refine wpList_pushN rfl _ _ _ rfl w.heap.size 21 _ 1 4 elt_rune 21 (.slice A n c) n _ rfl HO4.out [.int .i32 (x : Int)] _ rfl rfl rfl (by simp [Value.oneCell']) (by unfold maxLen; omega) (by omega) (by omega) ?_; intro v7 w7 own7 b7 far7; have hit7 := hit4.far (far7 g hit4.lt (hit4.not_row HO4.out)); obtain ⟨A7, c7, rfl⟩ := own_form own7))
              have hip2 : w7.iterPos g = pos + (dec T).2 := by unfold World.iterPos; rw [hit7]
              rw [HIP.out, hip2]
              exact ⟨⟨_, _, n + 1, L ++ [x], A7, c7, by simp, rfl, hyl, hle, by omega, by rw [HT.out, List.length_append, ← HL.out]; rfl, HS, HY, hit7, by rw [HT.out, natz_snoc]; exact own7, b4'.trans b7⟩, by omega⟩
            · have hn6' : ¬ (n : Int) ≤ 256 := by omega
              have HLM : Hid (¬ L.length ≤ 256) := by
                have := HL.out
                rw [List.length_take] at this
                show ¬ L.length ≤ 256
                omega
              have HT := Lib.hid (take_full L x HLM.out)
              go_wp2_with (first
                | (go_at_call 8; refine (keyMay_any (x : Int) hmb _).mono ?_; rw [hk2]; rintro e w5 ⟨rfl, hw⟩; subst w5)
                | (go_at_call 23; refine (keyHas_any T (writK x) hlen hFl' _).mono ?_; rw [hp]; rintro e w6 ⟨rfl, hw⟩; subst w6))
              have hip2 : w4.iterPos g = pos + (dec T).2 := by unfold World.iterPos; rw [hit4]
              rw [HIP.out, hip2]
              exact ⟨⟨_, _, n, L ++ [x], A, c, rfl, rfl, hyl, hle, hn, by rw [HT.out]; exact HL, HS, HY, hit4, by rw [HT.out]; exact HO4, b4'⟩, by omega⟩
        · have hk2 := decide_eq_false hk
          have HP := Lib.hid (HBD.out (meant_no HM.out HF.out (fun h => absurd h hk)))
          clear hk
          go_wp2_with (go_at_call 8; refine (keyMay_any m hmb _).mono ?_; rw [hk2]; rintro e w5 ⟨rfl, hw⟩; subst w5)
          go_ret2
          rw [HP.out]
          exact ⟨none, 0, rfl, .inl rfl, b4'⟩
      · have hql : (pos : Int) < (p : Int) := by omega
        have HW2 := Lib.hid (HW.out.next hpq)
        have hle := HW2.out.le
        go_wp2_with ((with_reducible refine at_next _ true ?_); refine wpList_nextStr rfl _ rfl g rfl S pos hit hlt ?_; intro w2 hit2 hg2; have HO2 := Lib.hid (HO.out.kept hg2 (.inr HNR.out)); have b2 := hb.grown hg2 z (fun k hk => by injection hk with hk; omega))
        have hip2 : w2.iterPos g = pos + (dec (S.drop pos)).2 := by unfold World.iterPos; rw [hit2]
        rw [HIP.out, hip2]
        exact ⟨⟨p, _, n, L, A, c, rfl, rfl, hle, hpl, hn, HL, HR, HW2, hit2, HO2, b2⟩, by omega⟩
    · have he := HW.out.last hlt
      obtain rfl : pos = p := he
      obtain rfl : pos = S.length := by omega
      have HP := Lib.hid HR.out.done
      by_cases hn6 : n ≤ 256
      · have hn6' : ¬ (256 : Int) < (n : Int) := by omega
        have HQ : Hid (parseA S = (L, 0) ∧ n = L.length ∧ L.take 257 = L) := by
          have := HL.out
          rw [List.length_take] at this
          exact ⟨by rw [HP.out, if_pos (by omega)], by omega, List.take_of_length_le (by omega)⟩
        go_wp2_with ((with_reducible refine at_next _ true ?_); refine wpList_nextEnd rfl _ rfl g rfl S _ hit hlt ?_)
        go_ret2
        rw [HQ.out.1]
        have hrow := Row.of_own HO.out
        rw [HQ.out.2.2] at hrow
        exact ⟨A, c, by rw [HQ.out.2.1]; rfl, hrow, hb⟩
      · have hn6' : (256 : Int) < (n : Int) := by omega
        have HQ : Hid (parseA S = ([], 3)) := by
          have := HL.out
          rw [List.length_take] at this
          show _ = _
          rw [HP.out, if_neg (by omega)]
        go_wp2_with ((with_reducible refine at_next _ true ?_); refine wpList_nextEnd rfl _ rfl g rfl S _ hit hlt ?_)
        go_ret2
        rw [HQ.out]
        exact ⟨none, 0, rfl, .inl rfl, hb⟩
end Go.Proofs.YtfoncmgcdldkdaaDoor

/-
  Contracts of the document's own answers, layer 15: Places.
-/
import Derived.Test.YtgmeamefbfgbgaaDoorSuStan
import Derived.Test.YtgmeamefbfgbgaaDoorSuMay
import Derived.Test.YtgmeamefbfgbgaaDoorSuPlac
namespace Go.Proofs.YtgmeamefbfgbgaaDoor
open Go.RowKit
set_option maxRecDepth 100000

section
variable {S : List UInt8} {L : List Nat} {y : Nat} {pat : List UInt8} {every : Bool} {z p : Nat}
theorem place_yes (h0 : 0 < pat.length) (hp : p < z) (hs : standsS S L y pat p z = true) : placesAt S L y pat true z (z - p) p = [p] ++ placesAt S L y pat true z (z - (p + pat.length)) (p + pat.length) := by
  rw [show z - p = (z - (p + 1)) + 1 by omega]
  conv => lhs; unfold placesAt
  rw [if_pos hp, if_pos hs, if_pos rfl, placesAt_fuel h0 (z - (p + 1)) (z - (p + pat.length)) _ (by omega) (by omega)]
  rfl
theorem place_one (hp : p < z) (hs : standsS S L y pat p z = true) : placesAt S L y pat false z (z - p) p = [p] ++ placesAt S L y pat false z (z - z) z := by
  rw [show z - p = (z - (p + 1)) + 1 by omega]
  conv => lhs; unfold placesAt
  rw [if_pos hp, if_pos hs, if_neg (by decide), placesAt_end _ (Nat.le_refl _)]
  rfl
theorem place_no (hp : p < z) (hs : standsS S L y pat p z = false) : placesAt S L y pat every z (z - p) p = placesAt S L y pat every z (z - (p + 1)) (p + 1) := by
  rw [show z - p = (z - (p + 1)) + 1 by omega]
  conv => lhs; unfold placesAt
  rw [if_pos hp, if_neg (by rw [hs]; decide)]
end
theorem places_small {S V : List UInt8} {L : List Nat} {y : Nat} {pat : List UInt8} {every : Bool} {a k : Nat} (h0 : 0 < pat.length) (hk : a + k < countL V) : (placesL S V L y pat every a (k + 1)).length ≤ V.length := by
  have h1 := (placesL_apart (S := S) (V := V) (L := L) (y := y) (pat := pat) (every := every) (A := a) k hk).le
  have h2 := end_le hk
  have h3 : (placesL S V L y pat every a (k + 1)).length ≤ (placesL S V L y pat every a (k + 1)).length * pat.length := Nat.le_mul_of_pos_right _ h0
  omega
set_option maxHeartbeats 4000000 in
theorem refSuPlaces_any (A : Option Addr) (c : Nat) (S V : List UInt8) (l : List RunP) (y : Nat) (hy : y < 18446744073709551616) (a b : Nat) (pat rep : List UInt8) (ev : Bool) (h0 : 0 < pat.length) (hp : pat.length ≤ 5000) (hS : S.length ≤ 4096) (g2 : sumN l ≤ 4096) (hlS : (bytesOf l).length = S.length) (hVS : V.length = S.length) (hab : a ≤ b) (hb : b < countL V) (w : World) (h : Txu w A S l) :
    Calls Tryd.prog 33 #[.agg #[.string ⟨S.toArray⟩, .slice A l.length c], .string ⟨V.toArray⟩, .int .u64 (y : Nat), .agg #[.int .i64 (a : Nat), .int .i64 (b : Nat), .string ⟨pat.toArray⟩, .string ⟨rep.toArray⟩, .bool ev]] w fun e w' => ∃ A' c', e = .returned (.slice A' (placesL S V (bytesOf l) y pat ev a (b + 1 - a)).length c') ∧ w'.ownsRow w.heap.size 3 1 (.slice A' (placesL S V (bytesOf l) y pat ev a (b + 1 - a)).length c') (placesL S V (bytesOf l) y pat ev a (b + 1 - a)).length ((placesL S V (bytesOf l) y pat ev a (b + 1 - a)).map intn) ∧ Below w.heap.size w w' := by
  have HM := Lib.hid (bytesOf_mem h.hf)
  have HH := Lib.hid h
  have BX := Lib.hid (boxesE2 w 24 38 #[.string ⟨S.toArray⟩, .slice A l.length c] #[.int .i64 (a : Nat), .int .i64 (b : Nat), .string ⟨pat.toArray⟩, .string ⟨rep.toArray⟩, .bool ev])
  have K := Lib.hid (BX.out.and ((grow_txu h).step BX.out.now.2.2))
  have HBY : Hid (∀ wx, Txu wx A S l → Calls Tryd.prog 42 #[.slice A l.length c] wx fun e w' => ∃ A' c', e = .returned (.slice A' (bytesOf l).length c') ∧ w'.ownsRow wx.heap.size 26 1 (.slice A' (bytesOf l).length c') (bytesOf l).length ((bytesOf l).map u64v) ∧ Below wx.heap.size wx w') := fun wx hx => refBytes_any A c wx.heap.size l hx.hf hx.hl g2 wx (Nat.le_refl _) hx.row
  clear h BX
  have HL := Lib.hid hlS
  clear hlS
  generalize bytesOf l = L at *
  have HSM : Hid (∀ k, k ≤ b - a → (placesL S V L y pat ev a (k + 1)).length ≤ 4096) := fun k hk => by have := places_small (S := S) (V := V) (L := L) (y := y) (pat := pat) (every := ev) (a := a) (k := k) h0 (by omega); omega
  go_enter Tryd.func33, Tryd.ntmps33
  go_upto_region 1 with fail
  generalize (w.alloc (.cells #[.string ⟨S.toArray⟩, .slice A l.length c] 24)).alloc (.cells #[.int .i64 (a : Nat), .int .i64 (b : Nat), .string ⟨pat.toArray⟩, .string ⟨rep.toArray⟩, .bool ev] 38) = wa at *
  obtain ⟨y0, y1⟩ := txt_cells K.out.now.1.1
  go_upto_region 2 with (go_at_call 42; refine (HBY.out _ K.out.now.2).mono ?_; rintro e w2 ⟨A2, c2, rfl, own2, bb⟩; have R2 : Grow w2 (fun w' => Row w' w2.heap.size A2 (L.map u64v)) := fun w' hb' => (Row.of_own own2).below hb'; have K2 := Lib.hid ((K.out.step bb).and R2); clear own2 bb R2 y0 y1)
  clear K HBY HH
  obtain ⟨y0, y1⟩ := txt_cells K2.out.now.1.1.1
  obtain ⟨x0, x1, x2, x3, x4⟩ := job_cells15 K2.out.now.1.1.2.1
  go_upto_region 4 with fail
  go_loopw [10, 11, 12, 13, 14] (fun v n _ _ _ wr => ∃ k : Nat, k ≤ b + 1 - a ∧ n = .int .i64 ((a + k : Nat) : Int) ∧ wr.ownsRow w2.heap.size 3 1 v (placesL S V L y pat ev a k).length ((placesL S V L y pat ev a k).map intn) ∧ Below w2.heap.size w2 wr) (fun _ n _ _ _ _ => b + 1 - (intOf n).toNat)
  case atStart => exact ⟨0, Nat.zero_le _, rfl, World.ownsRow_nil _ _ _ _, Below.refl _ _⟩
  case round =>
    clear y0 y1 x0 x1 x2 x3 x4
    obtain ⟨k, hk, rfl, hown, hbl⟩ := hrel
    obtain ⟨y0, y1⟩ := txt_cells (K2.out _ hbl).1.1.1
    obtain ⟨x0, x1, x2, x3, x4⟩ := job_cells15 (K2.out _ hbl).1.1.2.1
    by_cases hlt : a + k ≤ b
    · have hcn : a + k < countL V := by omega
      have hkb : a + k ≤ 5000 := by have := countL_le V; omega
      have HBO := Lib.hid (fun wx => refBounds_any V (by omega) ((a + k : Nat) : Int) wx)
      rw [boundsL_nat hcn] at HBO
      have hz := end_le hcn
      have hbe := beg_end hcn
      have HPN : Hid (placesL S V L y pat ev a (k + 1) = placesL S V L y pat ev a k ++ placesAt S L y pat ev (endL V (a + k)) (endL V (a + k) - begL V (a + k)) (begL V (a + k))) := placesL_succ a k
      have hsm := HSM.out k (by omega)
      rw [HPN.out, List.length_append] at hsm
      have HSS := Lib.hid hsm
      clear hsm
      generalize endL V (a + k) = z at *
      generalize begL V (a + k) = q at *
      generalize placesL S V L y pat ev a k = W at *
      go_upto_region 7 with (go_at_call 34; refine (HBO.out _).mono ?_; rintro e w3 ⟨rfl, bb⟩; have hb3 := hbl.trans (bb.mono hbl.size); have hown3 := own_keep hown bb (Nat.le_refl _); clear bb y0 y1 x0 x1 x2 x3 x4)
      have HK0 := Lib.hid hown3
      clear hown hown3
      go_loopw [10, 12] (fun v i wr => ∃ (D : List Nat) (p : Nat), i = .int .i64 (p : Nat) ∧ p ≤ z ∧ placesAt S L y pat ev z (z - q) q = D ++ placesAt S L y pat ev z (z - p) p ∧ wr.ownsRow w2.heap.size 3 1 v (W.length + D.length) ((W ++ D).map intn) ∧ Below w2.heap.size w2 wr) (fun _ i _ => z - (intOf i).toNat)
      case atStart => exact ⟨[], q, rfl, hbe, rfl, by simpa using HK0.out, hb3⟩
      case round =>
        clear HK0 hb3
        obtain ⟨D, p, rfl, hpz, hD, hown, hbl⟩ := hrel
        have HD := Lib.hid hD
        clear hD
        obtain ⟨y0, y1⟩ := txt_cells (K2.out _ hbl).1.1.1
        obtain ⟨x0, x1, x2, x3, x4⟩ := job_cells15 (K2.out _ hbl).1.1.2.1
        have zl := hbl.size
        by_cases hlt2 : p < z
        · have hdl : D.length + (placesAt S L y pat ev z (z - p) p).length = (placesAt S L y pat ev z (z - q) q).length := by rw [HD.out, List.length_append]
          have hss := HSS.out
          rw [← hdl] at hss
          have HST := Lib.hid (fun wx hx hr => refSuStands_any A A2 c c2 w2.heap.size S l L y hy pat hp p z (by omega) (by omega) hS HL.out HM.out wx hx hr)
          have HR2 := Lib.hid ((K2.out _ hbl).2)
          cases hs : standsS S L y pat p z with
          | false =>
            have HN := Lib.hid (place_no (every := ev) hlt2 hs)
            rw [hs] at HST
            go_wp2_with (go_at_call 67; refine (HST.out _ zl HR2.out).mono ?_; rintro e w4 ⟨rfl, bb⟩; have hown4 := own_keep hown bb (Nat.le_refl _); have hb4 := hbl.trans (bb.mono zl))
            go_roundw
            case rel => exact ⟨D, p + 1, by go_num, by omega, by rw [HD.out, HN.out], hown4, hb4⟩
            case measure => simp [intOf]; omega
          | true =>
            have hst := ((standsS_iff _ _ _ _ _ _).1 hs).1
            rw [hs] at HST
            cases ev with
            | true =>
              have HN := Lib.hid (place_yes h0 hlt2 hs)
              rw [HN.out, List.length_append] at hss
              have hss2 : W.length + D.length + 1 ≤ 4096 := by simp at hss; omega
              clear hss hdl
              go_wp2_with (first
                | (go_at_call 67; refine (HST.out _ zl HR2.out).mono ?_; rintro e w4 ⟨rfl, bb⟩; have hown4 := own_keep hown bb (Nat.le_refl _); have hb4 := hbl.trans (bb.mono zl); have zl4 := hb4.size)
                | (at_builtin; refine wpList_push rfl _ _ _ rfl w2.heap.size 3 _ 8 elt_int _ _ _ _ rfl hown4 (.int .i64 (p : Nat)) rfl rfl (by unfold maxLen; omega) (by omega) zl4 ?_; intro v5 w5 hown5 hb5; have hb6 := hb4.trans hb5; clear x0 x1 x2 x3 x4; obtain ⟨x0, x1, x2, x3, x4⟩ := job_cells15 (K2.out _ hb6).1.1.2.1))
              go_roundw
              case rel => exact ⟨D ++ [p], p + pat.length, by go_num, by omega, by rw [HD.out, HN.out, List.append_assoc], by rw [List.length_append, ← Nat.add_assoc, ← List.append_assoc, List.map_append]; exact hown5, hb6⟩
              case measure => simp [intOf]; omega
            | false =>
              have HN := Lib.hid (place_one hlt2 hs)
              rw [HN.out, List.length_append] at hss
              have hss2 : W.length + D.length + 1 ≤ 4096 := by simp at hss; omega
              clear hss hdl
              go_wp2_with (first
                | (go_at_call 67; refine (HST.out _ zl HR2.out).mono ?_; rintro e w4 ⟨rfl, bb⟩; have hown4 := own_keep hown bb (Nat.le_refl _); have hb4 := hbl.trans (bb.mono zl); have zl4 := hb4.size)
                | (at_builtin; refine wpList_push rfl _ _ _ rfl w2.heap.size 3 _ 8 elt_int _ _ _ _ rfl hown4 (.int .i64 (p : Nat)) rfl rfl (by unfold maxLen; omega) (by omega) zl4 ?_; intro v5 w5 hown5 hb5; have hb6 := hb4.trans hb5; clear x0 x1 x2 x3 x4; obtain ⟨x0, x1, x2, x3, x4⟩ := job_cells15 (K2.out _ hb6).1.1.2.1))
              go_roundw
              case rel => exact ⟨D ++ [p], z, by go_num, by omega, by rw [HD.out, HN.out, List.append_assoc], by rw [List.length_append, ← Nat.add_assoc, ← List.append_assoc, List.map_append]; exact hown5, hb6⟩
              case measure => simp [intOf]; omega
        · obtain rfl : p = z := by omega
          have HE : Hid (placesAt S L y pat ev p (p - q) q = D) := by show _ = _; rw [HD.out, placesAt_end _ (Nat.le_refl _), List.append_nil]
          go_wp2_with fail
          go_roundw
          case rel => exact ⟨k + 1, by omega, by go_num, by rw [HPN.out, HE.out, List.length_append]; exact hown, hbl⟩
          case measure => simp [intOf]; omega
    · obtain rfl : k = b + 1 - a := by omega
      obtain ⟨A9, c9, rfl⟩ := own_form hown
      go_wp2_with fail
      go_ret
      exact ⟨A9, c9, rfl, own_base hown (by have := K2.out.now.1.1.2.2.size; omega), (K2.out _ hbl).1.1.2.2⟩
end Go.Proofs.YtgmeamefbfgbgaaDoor

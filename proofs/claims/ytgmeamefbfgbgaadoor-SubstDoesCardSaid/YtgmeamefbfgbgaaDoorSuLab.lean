/-
  The landed labelsOf, masked: layer 15.
-/
import Derived.Test.YtgmeamefbfgbgaaDoorSuLand
import Derived.Test.YtgmeamefbfgbgaaDoorM04o
import Derived.Test.YtgmeamefbfgbgaaDoorM03
import Derived.Test.YtgmeamefbfgbgaaDoorM07e
import Derived.Test.YtgmeamefbfgbgaaDoorM03o
import Derived.OwnWalk
namespace Go.Proofs.YtgmeamefbfgbgaaDoor
open Go.RowKit
set_option maxRecDepth 100000

theorem su_two {w : World} {g T : Nat} {u v : Value} (h : Blk w g T #[u, v]) : w.cell? ⟨g, 0, none⟩ = some u ∧ w.cell? ⟨g, 1, none⟩ = some v := ⟨by have := h.cell 0; simpa using this, by have := h.cell 1; simpa using this⟩
set_option maxHeartbeats 1000000 in
theorem suLabels_any (A : Option Addr) (c : Nat) (S : List UInt8) (l : List RunP) (hS : S.length ≤ 5000) (hsum : sumN l ≤ 4096) (w : World) (h : Txu w A S l) :
    Calls Tryd.prog 26 #[.agg #[.string ⟨S.toArray⟩, .slice A l.length c]] w fun e w' => ∃ A' c', e = .returned (.slice A' (bytesOf l).length c') ∧
      w'.ownsRow w.heap.size 26 1 (.slice A' (bytesOf l).length c') (bytesOf l).length ((bytesOf l).map u64v) ∧ Below w.heap.size w w' := by
  have hlen := h.hl
  unfold maxLen at hlen
  have HF := Lib.hid h.hf
  have HT := Lib.hid h
  have K := Lib.hid ((blk_box w (T := 24) (cs := #[.string ⟨S.toArray⟩, .slice A l.length c])).and (((grow_txu h).alloc (.cells #[.string ⟨S.toArray⟩, .slice A l.length c] 24)).and (bel_box (Below.refl _ w) (.cells #[.string ⟨S.toArray⟩, .slice A l.length c] 24))))
  obtain ⟨i0, hi0, hz, hi1, hi2⟩ := info_parts elt_label.hi
  clear h
  go_enter Tryd.func26, Tryd.ntmps26
  go_upto_region 1 with fail
  generalize w.alloc (.cells #[.string ⟨S.toArray⟩, .slice A l.length c] 24) = wa at *
  obtain ⟨y0, y1⟩ := txt_cells K.out.now.1
  have za := K.out.now.2.2.size
  go_upto_region 2 with (at_make; refine wpList_make_own _ rfl _ _ 62 rfl w.heap.size 26 i0 (.int .u64 0) 1 Tryd.underlying62 hi0 hz hi1 _ _ _ S.length rfl rfl rfl (by rw [hi2]; omega) (by unfold maxLen; omega) za ?_; intro w1 hown1 hgr1; have bb : Below wa.heap.size wa w1 := (Below.refl _ _).grown hgr1 (Nat.le_refl _) (fun k hk => by cases hk); have K1 := Lib.hid (K.out.step bb))
  clear K y0 y1 hgr1
  obtain ⟨y0, y1⟩ := txt_cells K1.out.now.1
  generalize hg1 : (some ⟨wa.heap.size, 0, none⟩ : Option Addr) = A0 at *
  clear hg1
  have HO1 := Lib.hid hown1
  clear hown1
  go_upto_region 3 with fail
  go_loopw [3, 13] (fun v i wr => ∃ k : Nat, k ≤ l.length ∧ i = .int .i64 k ∧ wr.ownsRow w.heap.size 26 1 v (bytesOf (l.take k)).length ((bytesOf (l.take k)).map u64v) ∧ Below w.heap.size w wr) (fun _ i _ => l.length - (intOf i).toNat)
  case atStart => exact ⟨0, Nat.zero_le _, rfl, HO1.out, K1.out.now.2.2⟩
  case round =>
    clear y0 y1
    obtain ⟨k, hk, rfl, hown, hb⟩ := hrel
    have z := hb.size
    by_cases hlt : k < l.length
    · obtain ⟨ad, rfl, hbl, c0, c1⟩ := run_cells (HT.out.row.below hb) hlt
      have hfk := HF.out l[k] (List.getElem_mem hlt)
      have HS : Hid (bytesOf (l.take (k + 1)) = bytesOf (l.take k) ++ List.replicate l[k].2.toNat l[k].1) := bytesOf_succ l k hlt
      have hle := bytesOf_take_len l (k + 1)
      rw [HS.out, List.length_append, List.length_replicate] at hle
      generalize l[k] = r at *
      obtain ⟨x, n⟩ := r
      dsimp only at *
      generalize bytesOf (l.take k) = D at *
      have HX := Lib.hid hown
      clear hown
      go_upto_region 5 with fail
      have BB := Lib.hid (Blk.new wr 51 #[.int .u64 (x : Nat), .int .i64 n])
      have HY := Lib.hid (HX.out.alloc (.cells #[.int .u64 (x : Nat), .int .i64 n] 51))
      have b2 := hb.trans ((Below.refl _ wr).alloc hb.size (.cells #[.int .u64 (x : Nat), .int .i64 n] 51))
      generalize hgb : wr.heap.size = gb at *
      generalize wr.alloc (.cells #[.int .u64 (x : Nat), .int .i64 n] 51) = wb at *
      clear hgb hbl c0 c1 HX
      obtain ⟨x0, x1⟩ := su_two BB.out
      go_upto_region 6 with fail
      clear x0 x1
      go_loopw [3, 19] (fun v j wx => ∃ m : Nat, m ≤ n.toNat ∧ j = .int .i64 m ∧ wx.ownsRow w.heap.size 26 1 v (D.length + m) ((D ++ List.replicate m x).map u64v) ∧ Blk wx gb 51 #[.int .u64 (x : Nat), .int .i64 n] ∧ Below w.heap.size w wx) (fun _ j _ => n.toNat - (intOf j).toNat)
      case atStart => exact ⟨0, Nat.zero_le _, rfl, by simpa using HY.out, BB.out, b2⟩
      case round =>
        clear BB HY b2
        obtain ⟨m, hm, rfl, hown, bb, b2⟩ := hrel
        have zz := b2.size
        obtain ⟨A1, c2, rfl⟩ := own_form hown
        obtain ⟨x0, x1⟩ := su_two bb
        have HB := Lib.hid bb
        have HO := Lib.hid hown
        clear bb hown
        by_cases hmn : (m : Int) < n
        · go_wp2_with (at_builtin; refine wpList_pushN rfl _ _ _ rfl w.heap.size 26 _ 1 8 elt_label _ _ _ _ rfl HO.out [.int .u64 (x : Nat)] _ rfl rfl rfl (by simp [Value.oneCell']) (by unfold maxLen; omega) (by omega) zz ?_; intro v3 w3 hown3 hb3 hfar3; have hbb := (hfar3 gb HB.out.lt (own_notBlk HO.out HB.out (by decide))).trans HB.out)
          go_roundw
          case rel => exact ⟨m + 1, by omega, by go_num, by rw [List.replicate_succ', ← List.append_assoc, List.map_append]; exact hown3, hbb, b2.trans hb3⟩
          case measure => simp [intOf]; omega
        · obtain rfl : m = n.toNat := by omega
          go_wp2_with fail
          go_roundw
          case rel => exact ⟨k + 1, by omega, by go_num, by rw [HS.out, List.length_append, List.length_replicate]; exact HO.out, b2⟩
          case measure => simp [intOf]; omega
    · obtain rfl : k = l.length := by omega
      rw [List.take_length] at hown
      obtain ⟨A1, c1, rfl⟩ := own_form hown
      go_wp2
      go_ret
      exact ⟨A1, c1, rfl, hown, hb⟩
set_option maxHeartbeats 2000000 in
theorem suMasked_any (A : Option Addr) (c B : Nat) (S : List UInt8) (L : List Nat) (y : Nat) (hy : y < 18446744073709551616) (hx : ∀ x ∈ L, x < 18446744073709551616) (hL : L.length = S.length) (hS : S.length ≤ 5000) (w : World) (hB : B ≤ w.heap.size) (h : Row w B A (L.map u64v)) :
    Calls Tryd.prog 28 #[.string ⟨S.toArray⟩, .slice A L.length c, .int .u64 (y : Nat)] w fun e w' => e = .returned (.string ⟨(maskS S L y).toArray⟩) ∧ Below w.heap.size w w' := by
  have HH := Lib.hid h
  have HX := Lib.hid hx
  have HL := Lib.hid hL
  clear h hx
  obtain ⟨cs, w2, hcv, hs2, hb2⟩ := seen_new S w
  have hcs : S.length ≤ cs := by obtain ⟨cur, _, _, h, _⟩ := hs2; exact h
  have HCV := Lib.hid hcv
  clear hcv
  have hlS : L.length ≤ 5000 := by omega
  clear hL
  go_enter Tryd.func28, Tryd.ntmps28
  go_upto_region 1 with fail
  have hcv := HCV.out
  go_upto_region 2 with fail
  clear hcv HCV
  generalize hg0 : w.heap.size = g at *
  have HG0 := Lib.hid hg0
  clear hg0
  go_upto_region 3 with fail
  go_loopw [8, 9, 14] (fun _ _ i wr => ∃ k : Nat, k ≤ L.length ∧ i = .int .i64 k ∧ SeenRow wr g S.length cs (maskTo S L y k) ∧ Below g w wr) (fun _ _ i _ => L.length - (intOf i).toNat)
  case atStart => exact ⟨0, Nat.zero_le _, rfl, by rw [maskTo_start]; exact hs2, hb2⟩
  case round =>
    clear hs2 hb2
    obtain ⟨k, hk, rfl, hs, hb⟩ := hrel
    have z : g ≤ wr.heap.size := by rw [← HG0.out]; exact hb.size
    by_cases hlt : k < L.length
    · obtain ⟨ad, rfl, hbl, hcell⟩ := ((HH.out).below (hb.mono (by omega))).map_at hlt
      have hxk := HX.out _ (List.getElem_mem hlt)
      have hkS : k < S.length := by rw [← HL.out]; exact hlt
      have HSE : Hid (subB L[k] y = true → maskTo S L y (k + 1) = maskTo S L y k) := fun h => maskTo_seen HL.out hkS h
      have HHI : Hid (subB L[k] y = false → maskTo S L y (k + 1) = (maskTo S L y k).set k 10) := fun h => maskTo_hide HL.out hkS h
      have hml : (maskTo S L y k).length = S.length := maskTo_len HL.out (by omega)
      have HML := Lib.hid hml
      clear hml
      generalize L[k] = x at *
      cases hs' : subB x y with
      | true =>
        have HN := Lib.hid (HSE.out hs')
        go_wp2_with (go_at_call 48; refine (below_any x y hxk hy _).mono ?_; rintro e w3 ⟨rfl, rfl⟩; rw [hs'])
        go_roundw
        case rel => exact ⟨k + 1, by omega, by go_num, by rw [HN.out]; exact hs, hb⟩
        case measure => simp [intOf]; omega
      | false =>
        have HN := Lib.hid (HHI.out hs')
        have fz := hs.frozen hkS
        have cl := hs.cell (j := k) (by rw [HML.out]; exact hkS)
        have HS2 : Hid (SeenRow (wr.setCell ⟨g, k, none⟩ (.int .u8 10)) g S.length cs (maskTo S L y (k + 1))) := by
          have := hs.set k 10
          rw [← HN.out] at this
          exact this
        have hadk : (⟨g, 0, none⟩ : Addr).add k = ⟨g, k, none⟩ := base_add g k
        rw [← hadk] at fz cl HS2
        have HB2 : Hid (g ≤ ((⟨g, 0, none⟩ : Addr).add k).block) := by show _ ≤ _; rw [hadk]; exact Nat.le_refl _
        clear hadk
        generalize (maskTo S L y k)[k]'_ = bb at *
        generalize hge : (⟨g, 0, none⟩ : Addr) = ad0 at *
        clear hge
        go_wp2_with (go_at_call 48; refine (below_any x y hxk hy _).mono ?_; rintro e w3 ⟨rfl, rfl⟩; rw [hs'])
        go_roundw
        case rel => exact ⟨k + 1, by omega, by go_num, HS2.out, hb.setCell HB2.out _⟩
        case measure => simp [intOf]; omega
    · obtain rfl : k = L.length := by omega
      rw [HL.out, maskTo_all HL.out] at hs
      have HLM := Lib.hid (mask_len (y := y) HL.out)
      have hcv2 := str_of_row (P := Tryd.prog) (c := cs) (l := maskS S L y) 85 9 5 Tryd.underlying85 Tryd.underlying5 Tryd.underlying9 hs.row
      rw [HLM.out] at hcv2
      go_wp2
      go_ret
      exact ⟨rfl, by rw [HG0.out]; exact hb⟩
end Go.Proofs.YtgmeamefbfgbgaaDoor

/-
  The landed Swap: layer 14.
-/
import Derived.Test.YtgpmfkedcoiopaaGreatDoorOxKey
import Derived.Test.YtgpmfkedcoiopaaGreatDoorOxDo
import Derived.Test.YtgpmfkedcoiopaaGreatDoorOxSpan
import Derived.Test.YtgpmfkedcoiopaaGreatDoorM14h
import Derived.Test.YtgpmfkedcoiopaaGreatDoorM14c
import Derived.Test.YtgpmfkedcoiopaaGreatDoorGlyProof
namespace Go.Proofs.YtgpmfkedcoiopaaGreatDoor
open Go.RowKit
set_option maxRecDepth 100000

theorem whichM_hi (S : List UInt8) (p : Int) : whichM (chars S) p ≤ (chars S).length := by
  have h := List.findIdx_le_length (xs := List.range (chars S).length) (p := fun j => decide (p < ((width ((chars S).take (j + 1)) : Nat) : Int)))
  rw [List.length_range] at h
  exact h
/-- from a sign on to the end of its line: so many signs -/
theorem swap_span {V : List UInt8} {i : Nat} (hi : i ≤ (chars V).length) :
    ∃ j, i ≤ j ∧ j ≤ (chars V).length ∧ atM V j = lineTo V (atM V i) ∧ (chars ((V.drop (atM V i)).take (lineTo V (atM V i) - atM V i))).length = j - i ∧ atM V i ≤ lineTo V (atM V i) ∧ lineTo V (atM V i) ≤ V.length := by
  have ha : atM V i ≤ V.length := by
    have := width_le_take (chars V) i
    rwa [width_chars] at this
  obtain ⟨q, hq, hqc, _, hE⟩ := line_of ha
  obtain ⟨A, C, hAC, hA, hAE, _⟩ := line_signs hqc
  have hE2 : lineTo V (atM V i) = endL V q := by unfold lineTo; rw [hq, boundsL_nat hqc]
  have hj : (A ++ signsL V q).length ≤ (chars V).length := by rw [hAC]; simp only [List.length_append]; omega
  have hat : atM V (A ++ signsL V q).length = endL V q := by
    unfold atM
    rw [hAC, List.take_left', ← hAE]
    · simp [width]
    · rfl
  have hle : endL V q ≤ V.length := by rw [← hat]; unfold atM; have := width_le_take (chars V) (A ++ signsL V q).length; rwa [width_chars] at this
  generalize (A ++ signsL V q).length = j at *
  have hij : i ≤ j := by
    rcases Nat.lt_or_ge j i with h | h
    · have := (atM_lt hj hi).2 h
      omega
    · exact h
  refine ⟨j, hij, hj, by rw [hE2, hat], ?_, by rw [hE2]; exact hE, by rw [hE2]; exact hle⟩
  have r1 := read_take hi
  have r2 := read_take hj
  have e : (chars V).take j = (chars V).take i ++ ((chars V).take j).drop i := by
    have := (List.take_append_drop i ((chars V).take j)).symm
    rwa [List.take_take, Nat.min_eq_left hij] at this
  rw [e] at r2
  have hs := Read.slice r1 r2
  rw [← e] at hs
  have hs2 : chars ((V.drop (atM V i)).take (atM V j - atM V i)) = ((chars V).take j).drop i := hs
  rw [hE2, ← hat, hs2, List.length_drop, List.length_take]
  omega
theorem swap_short {V : List UInt8} {i j n : Nat} (hn : 1 ≤ n) (hij : i ≤ j) (hj : j ≤ (chars V).length) : (j - i < n) ↔ atM V j ≤ atM V (i + (n - 1)) := by
  have hall : ∀ m, (chars V).length ≤ m → atM V m = V.length := fun m hm => by unfold atM; rw [List.take_of_length_le hm, width_chars]
  have hle : ∀ m, atM V m ≤ V.length := fun m => by have := width_le_take (chars V) m; rwa [width_chars] at this
  rcases Nat.lt_or_ge (chars V).length (i + (n - 1)) with h | h
  · rw [hall _ (Nat.le_of_lt h)]
    exact ⟨fun _ => hle j, fun _ => by omega⟩
  · constructor
    · intro h1
      exact width_take_mono (chars V) (by omega)
    · intro h1
      rcases Nat.lt_or_ge (i + (n - 1)) j with h2 | h2
      · have := (atM_lt h hj).2 h2
        omega
      · omega
theorem swap_bad {S : List UInt8} {l : List RunP} {y : Nat} {p n k : Int} (h : (viewOf S l y).2 ≠ 0 ∨ ¬ keyK k ∨ k < 32) : swapM S l y p n k = (out0, 2) := if_pos h
def swpR (S : List UInt8) (l : List RunP) (V : List UInt8) (y i n : Nat) (k : Int) : (EdP × List UInt8) × Nat := turnedM S l y (atM V i : Nat) (atM V (i + n) : Nat) (swapS k n) (pack (List.replicate (swapS k n).length y)) true
theorem swap_is {S : List UInt8} {l : List RunP} {V : List UInt8} {y : Nat} (hV : (viewOf S l y).1 = V) (hn : (viewOf S l y).2 = 0) {k : Int} (hk : keyK k) (h32 : ¬ k < 32) (p n : Int) :
    swapM S l y p n k = if lineTo V (atM V (whichM (chars V) p)) ≤ atM V (whichM (chars V) p + (manyM n - 1)) then (out0, 6) else
      if (swpR S l V y (whichM (chars V) p) (manyM n) k).2 = 0 then (⟨(swpR S l V y (whichM (chars V) p) (manyM n) k).1.1, [], [], false, false, ((atM V (whichM (chars V) p) : Nat) : Int) + ((swapS k (manyM n)).length : Nat) - ((enc k.toNat).length : Nat)⟩, 0)
      else (out0, (swpR S l V y (whichM (chars V) p) (manyM n) k).2) := by
  unfold swapM
  rw [if_neg (fun h => h.elim (fun e => e hn) (fun e => e.elim (fun e => e hk) h32)), hV]
  rfl
theorem makeOf_le {X : List UInt8} {y : Nat} (h : X.length ≤ 4096) : makeOf X y = ((X, pack (List.replicate X.length y)), 0) := if_pos h
set_option maxHeartbeats 16000000 in
theorem oxSwap_any (A : Option Addr) (c : Nat) (S : List UInt8) (l : List RunP) (y : Nat) (hy : y < 18446744073709551616) (p n k : Int) (hkk : -2147483648 ≤ k ∧ k ≤ 2147483647) (w : World) (h : Txu w A S l) :
    Calls Tryz.prog 20 #[.agg #[.string ⟨S.toArray⟩, .slice A l.length c], .int .u64 (y : Nat), .int .i64 p, .int .i64 n, .int .i32 k] w (GivesO w (swapM S l y p n k)) := by
  obtain ⟨v, hv⟩ : ∃ v, swapM S l y p n k = v := ⟨_, rfl⟩
  rw [hv]
  have hbad := swap_bad (S := S) (l := l) (y := y) (p := p) (n := n) (k := k)
  rw [hv] at hbad
  obtain ⟨V, hV⟩ : ∃ V, (viewOf S l y).1 = V := ⟨_, rfl⟩
  obtain ⟨e0, he0⟩ : ∃ n, (viewOf S l y).2 = n := ⟨_, rfl⟩
  have HLK := Lib.hid (fun wx (hx : Txu wx A S l) => oxLook_any A c S l y hy wx hx)
  rw [hV, he0] at HLK
  rw [he0] at hbad
  have hvl := view_len S l y
  rw [hV] at hvl
  have bx := (boxesE2 w 32 43 #[.string ⟨S.toArray⟩, .slice A l.length c] #[.int .i64 0, .string ⟨#[]⟩, .slice none 0 0, .string ⟨#[]⟩, .slice none 0 0, .string ⟨#[]⟩, .slice none 0 0, .bool false, .bool false, .int .i64 0]).now
  have BX := Lib.hid bx
  have TX := Lib.hid (grow_txu h _ bx.2.2)
  have HMY := Lib.hid (fun wx => keyMay_any k hkk wx)
  clear h bx
  by_cases hn0 : e0 = 0
  · subst hn0
    by_cases h32 : k < 32
    · have HV : Hid ((out0, 2) = v) := (hbad (.inr (.inr h32))).symm
      have d32 : decide (k < 32) = true := decide_eq_true h32
      clear hbad hv hV he0 hvl HMY h32
      go_enter Tryz.func20, Tryz.ntmps20
      go_upto_region 1 with fail
      generalize (w.alloc (.cells #[.string ⟨S.toArray⟩, .slice A l.length c] 32)).alloc (.cells #[.int .i64 0, .string ⟨#[]⟩, .slice none 0 0, .string ⟨#[]⟩, .slice none 0 0, .string ⟨#[]⟩, .slice none 0 0, .bool false, .bool false, .int .i64 0] 43) = wx at *
      obtain ⟨z0, z1⟩ := txt_cells BX.out.1
      go_upto_region 2 with (go_at_call 46; refine (HLK.out _ TX.out).mono ?_; rintro e w2 ⟨A1, c1, rfl, tS, bb⟩; have K2 : Hid (DoK w (w2.alloc (.cells #[.string ⟨S.toArray⟩, .slice A1 l.length c1, .int .u64 (y : Nat), .string ⟨V.toArray⟩] 89)) w2.heap.size (w.heap.size + 1) A1 c1 S l y V w.heap.size 32 #[.string ⟨S.toArray⟩, .slice A l.length c]) := ⟨Blk.new w2 _ _, (BX.out.2.1.below bb BX.out.2.1.lt).alloc _, (BX.out.1.below bb BX.out.1.lt).alloc _, (BX.out.2.2.trans (bb.mono BX.out.2.2.size)).alloc (BX.out.2.2.trans (bb.mono BX.out.2.2.size)).size _, grow_txu tS _ ((Below.refl _ _).alloc (Nat.le_refl _) _)⟩; have N2 : Hid (w.heap.size + 1 < w2.heap.size) := Nat.lt_of_lt_of_le BX.out.2.1.lt bb.size; clear tS bb z0 z1)
      generalize hg10 : w2.heap.size = g10 at *
      generalize w2.alloc (.cells #[.string ⟨S.toArray⟩, .slice A1 l.length c1, .int .u64 (y : Nat), .string ⟨V.toArray⟩] 89) = w3 at *
      clear hg10 BX TX HLK
      obtain ⟨⟨r0, r1, r2, r3, r4, r5, r6, r7, r8, r9⟩, t0, t1, t2, t3, t4, t5, t6, t7, t8, t9⟩ := out_cells K2.out.res
      go_wp2_with fail
      exact end_zero rfl _ K2.out.res noLab_out K2.out.bel (by omega) rfl rfl rfl HV.out (fun _ _ h => h)
    have d32 : decide (k < 32) = false := decide_eq_false h32
    by_cases hk : keyK k
    · rw [decide_eq_true hk] at HMY
      have hvv := (swap_is hV he0 hk h32 p n).symm.trans hv
      have HAL := Lib.hid (fun wx => oxAlign_any V (by omega) p wx)
      have hi := whichM_hi V p
      have HA : ∀ wx, Calls Tryz.prog 40 #[.string ⟨V.toArray⟩, .int .i64 p] wx fun e w' => e = .returned (.int .i64 (atM V (whichM (chars V) p) : Nat)) ∧ Below wx.heap.size wx w' := HAL.out
      replace HA := Lib.hid HA
      clear HAL
      generalize whichM (chars V) p = i at *
      have mn := manyM_bounds n
      have HCO := Lib.hid (fun wx => oxCounted_any n wx)
      generalize manyM n = nn at *
      obtain ⟨j, hij, hj, hjE, hcnt, haE, hEV⟩ := swap_span hi
      have hsh := swap_short (V := V) mn.1 hij hj
      rw [hjE] at hsh
      have HNX : Hid (∀ m, m ≤ (chars V).length → ∀ wx, Calls Tryz.prog 42 #[.string ⟨V.toArray⟩, .int .i64 (atM V m : Nat)] wx fun e w' => e = .returned (.int .i64 (atM V (m + 1) : Nat)) ∧ Below wx.heap.size wx w') := fun m hm wx => by
        have := oxNext_any V (by omega) (atM V m : Nat) wx
        rwa [nextM_atM hm] at this
      have HOF := Lib.hid (fun wx => linOf_any V (by omega) (atM V i : Nat) wx)
      have hq := ofL_le V (atM V i : Nat)
      have HBO := Lib.hid (fun wx => linBounds_any V (by omega) (ofL V (atM V i : Nat) : Nat) wx)
      have hbo : boundsL V (ofL V (atM V i : Nat) : Nat) = (((boundsL V (ofL V (atM V i : Nat) : Nat)).1.1, lineTo V (atM V i)), 0) := by
        rw [boundsL_nat hq]
        unfold lineTo
        rw [boundsL_nat hq]
      rw [hbo] at HBO
      have HCN := Lib.hid (fun wx => glyCount_any ((V.drop (atM V i)).take (lineTo V (atM V i) - atM V i)) (by rw [List.length_take, List.length_drop]; omega) wx)
      rw [hcnt] at HCN
      have htd := text_slice V (atM V i) (lineTo V (atM V i)) haE
      generalize (boundsL V (ofL V (atM V i : Nat) : Nat)).1.1 = b0 at *
      generalize ofL V (atM V i : Nat) = q at *
      generalize lineTo V (atM V i) = E at *
      clear hbo hq hcnt
      have HTD := Lib.hid htd
      clear htd
      obtain ⟨sg, hsg⟩ : ∃ sg, enc k.toNat = sg := ⟨_, rfl⟩
      have hen : encB k = sg := (encB_key hk h32).trans hsg
      have hsl : 1 ≤ sg.length ∧ sg.length ≤ 4 := by rw [← hsg]; exact enc_len _
      have hsw : swapS k nn = (List.replicate nn sg).flatten := by unfold swapS; rw [hsg]
      have hswl := swapS_le k nn
      rw [hsg] at hvv
      unfold swpR at hvv
      rw [hsw] at hvv hswl
      have HRP := Lib.hid (fun wx => stdRepeat_any sg nn hsl.2 (by omega) wx)
      generalize (List.replicate nn sg).flatten = R at *
      have HMK := Lib.hid (fun wx => stpMake_any R (by unfold maxLen; omega) y hy wx)
      rw [makeOf_le (by omega)] at HMK
      have hok := okT_make R y hy
      rw [makeOf_le (by omega)] at hok
      have hrk : (pack (List.replicate R.length y)).length ≤ 1000000 := by have := pack_len (List.replicate R.length y); rw [List.length_replicate] at this; omega
      generalize pack (List.replicate R.length y) = rk at *
      obtain ⟨tm, htm⟩ : ∃ tm, turnedM S l y (atM V i : Nat) (atM V (i + nn) : Nat) R rk true = tm := ⟨_, rfl⟩
      rw [htm] at hvv
      obtain ⟨⟨⟨ea, ES, el, EX, em⟩, W⟩, en⟩ := tm
      dsimp only at hvv
      have HVV := Lib.hid hvv
      have HTM := Lib.hid htm
      have HSH := Lib.hid hsh
      have HEN := Lib.hid hen
      have HRK := Lib.hid hrk
      have HOK := Lib.hid hok
      have hai : atM V i ≤ 4096 := by omega
      have HIJ : Hid (i ≤ j ∧ j ≤ (chars V).length ∧ atM V j = E) := ⟨hij, hj, hjE⟩
      have hsl1 := hsl.1
      have hsl2 := hsl.2
      have hn1 : 1 ≤ nn := mn.1
      have hn2 : nn ≤ 999 := mn.2
      have hR : R.length ≤ 3996 := by omega
      clear hvv htm hsh hen hrk hok hbad hv hV he0 hsg hsw hswl hi hk mn hij hj hjE
      go_enter Tryz.func20, Tryz.ntmps20
      go_upto_region 1 with fail
      generalize (w.alloc (.cells #[.string ⟨S.toArray⟩, .slice A l.length c] 32)).alloc (.cells #[.int .i64 0, .string ⟨#[]⟩, .slice none 0 0, .string ⟨#[]⟩, .slice none 0 0, .string ⟨#[]⟩, .slice none 0 0, .bool false, .bool false, .int .i64 0] 43) = wx at *
      obtain ⟨z0, z1⟩ := txt_cells BX.out.1
      go_upto_region 2 with (go_at_call 46; refine (HLK.out _ TX.out).mono ?_; rintro e w2 ⟨A1, c1, rfl, tS, bb⟩; have K2 : Hid (DoK w (w2.alloc (.cells #[.string ⟨S.toArray⟩, .slice A1 l.length c1, .int .u64 (y : Nat), .string ⟨V.toArray⟩] 89)) w2.heap.size (w.heap.size + 1) A1 c1 S l y V w.heap.size 32 #[.string ⟨S.toArray⟩, .slice A l.length c]) := ⟨Blk.new w2 _ _, (BX.out.2.1.below bb BX.out.2.1.lt).alloc _, (BX.out.1.below bb BX.out.1.lt).alloc _, (BX.out.2.2.trans (bb.mono BX.out.2.2.size)).alloc (BX.out.2.2.trans (bb.mono BX.out.2.2.size)).size _, grow_txu tS _ ((Below.refl _ _).alloc (Nat.le_refl _) _)⟩; have N2 : Hid (w.heap.size + 1 < w2.heap.size) := Nat.lt_of_lt_of_le BX.out.2.1.lt bb.size; clear tS bb z0 z1)
      generalize hg10 : w2.heap.size = g10 at *
      generalize w2.alloc (.cells #[.string ⟨S.toArray⟩, .slice A1 l.length c1, .int .u64 (y : Nat), .string ⟨V.toArray⟩] 89) = w3 at *
      clear hg10 BX TX HLK
      obtain ⟨⟨y0, y1, y2, y3⟩, _⟩ := si_cells K2.out.si
      go_upto_region 6 with (first
        | (go_at_call 62; refine (HMY.out _).mono ?_; rintro e w4 ⟨rfl, hw4⟩; subst hw4)
        | (go_at_call 63; refine (HCO.out _).mono ?_; rintro e w4 ⟨rfl, hw4⟩; subst hw4)
        | (go_at_call 40; refine (HA.out _).mono ?_; rintro e w5 ⟨rfl, bb⟩; have K5 := Lib.hid (K2.out.step bb); clear bb y0 y1 y2 y3))
      clear K2 HMY HCO HA
      have hb0 : Below w5.heap.size w5 w5 := Below.refl _ _
      have hbz : Below w5.heap.size w5 w5.drew := below_drewN hb0 1
      have KS : Hid (∀ w', Below w5.heap.size w5 w' → w'.cell? ⟨g10, 3, none⟩ = some (.string ⟨V.toArray⟩)) := fun w' hb => (si_cells (K5.out.step hb).si).1.2.2.2
      refine wp_region_held_drew (S := fun w' => w'.cell? ⟨g10, 3, none⟩ = some (.string ⟨V.toArray⟩)) (by kernel_rfl) (KS.out _ hbz) (fun hHeld => ?_)
      refine wpAnyH_take (i := 0) (v := ?_) rfl (by kernel_rfl) (by kernel_rfl) (by kernel_rfl) (fun _ _ _ h => h) (Or.inl ⟨by rfl, ?_⟩) (by assumption) ?_
      rotate_left
      · (intro w hSw; have q0 := hSw; go_simp; (try with_reducible rfl))
      (try simp only [List.getElem_toArray, List.getElem_cons_zero, Act.put, List.setIfInBounds_toArray, List.set_cons_zero, List.set_cons_succ])
      refine wpAnyH_take (i := 1) (v := ?_) rfl (by kernel_rfl) (by kernel_rfl) (by kernel_rfl) (fun _ _ _ h => h) (Or.inl ⟨by rfl, ?_⟩) (by assumption) ?_
      rotate_left
      · (intro w hSw; have q0 := hSw; go_simp; (try with_reducible rfl))
      (try simp only [List.getElem_toArray, List.getElem_cons_zero, List.getElem_cons_succ, Act.put, List.setIfInBounds_toArray, List.set_cons_zero, List.set_cons_succ])
      refine wpAnyH_take (i := 2) (v := ?_) rfl (by kernel_rfl) (by kernel_rfl) (by kernel_rfl) (fun _ _ _ h => h) (Or.inl ⟨by rfl, ?_⟩) (by assumption) ?_
      rotate_left
      · (intro w hSw; have q0 := hSw; go_simp; (try with_reducible rfl))
      (try simp only [List.getElem_toArray, List.getElem_cons_zero, List.getElem_cons_succ, Act.put, List.setIfInBounds_toArray, List.set_cons_zero, List.set_cons_succ])
      refine wpAnyH_take (i := 3) (v := ?_) rfl (by kernel_rfl) (by kernel_rfl) (by kernel_rfl) (fun _ _ _ h => h) (Or.inl ⟨by rfl, ?_⟩) (by assumption) ?_
      rotate_left
      · (intro w hSw; have q0 := hSw; go_simp; (try with_reducible rfl))
      (try simp only [List.getElem_toArray, List.getElem_cons_zero, List.getElem_cons_succ, Act.put, List.setIfInBounds_toArray, List.set_cons_zero, List.set_cons_succ])
      refine wpAnyH_take (i := 4) (v := ?_) rfl (by kernel_rfl) (by kernel_rfl) (by kernel_rfl) (fun _ _ _ h => h) (Or.inl ⟨by rfl, ?_⟩) (by assumption) ?_
      rotate_left
      · (intro w hSw; have q0 := hSw; go_simp; (try with_reducible rfl))
      (try simp only [List.getElem_toArray, List.getElem_cons_zero, List.getElem_cons_succ, Act.put, List.setIfInBounds_toArray, List.set_cons_zero, List.set_cons_succ])
      refine wpAnyH_ready (rs := [5]) (by kernel_rfl) (by simp) ?_
      refine AllReadyH.cons rfl (fun K hK => ?_) AllReadyH.nil
      go_simp
      refine (HOF.out _).mono ?_
      rintro ee w6 ⟨rfl, hby⟩
      have hbx : Below w5.heap.size w5 w6 := hbz.trans (hby.mono hbz.size)
      (try go_wp2_with fail)
      refine hK.out _ _ (KS.out _ hbx) (fun hHeld => ?_)
      clear hK K
      (try simp only [List.getElem_toArray, List.getElem_cons_zero, List.getElem_cons_succ, Act.put, List.setIfInBounds_toArray, List.set_cons_zero, List.set_cons_succ])
      refine wpAnyH_ready (rs := [6]) (by kernel_rfl) (by simp) ?_
      refine AllReadyH.cons rfl (fun K hK => ?_) AllReadyH.nil
      go_simp
      refine (HBO.out _).mono ?_
      rintro ee w7 ⟨rfl, hbw⟩
      have hbv : Below w5.heap.size w5 w7 := hbx.trans (hbw.mono hbx.size)
      (try go_wp2_with fail)
      refine hK.out _ _ (KS.out _ hbv) (fun hHeld => ?_)
      clear hK K
      (try simp only [List.getElem_toArray, List.getElem_cons_zero, List.getElem_cons_succ, Act.put, List.setIfInBounds_toArray, List.set_cons_zero, List.set_cons_succ])
      refine wpAnyH_take (i := 7) (v := ?_) rfl (by kernel_rfl) (by kernel_rfl) (by kernel_rfl) (fun _ _ _ h => h) (Or.inl ⟨by rfl, ?_⟩) (by assumption) ?_
      rotate_left
      · (intro w hSw; have q0 := hSw; go_simp; (try with_reducible rfl))
      (try simp only [List.getElem_toArray, List.getElem_cons_zero, List.getElem_cons_succ, Act.put, List.setIfInBounds_toArray, List.set_cons_zero, List.set_cons_succ])
      refine wpAnyH_take (i := 8) (v := ?_) rfl (by kernel_rfl) (by kernel_rfl) (by kernel_rfl) (fun _ _ _ h => h) (Or.inl ⟨by rfl, ?_⟩) (by assumption) ?_
      rotate_left
      · (intro w hSw; have q0 := hSw; go_simp; (try with_reducible rfl))
      (try simp only [List.getElem_toArray, List.getElem_cons_zero, List.getElem_cons_succ, Act.put, List.setIfInBounds_toArray, List.set_cons_zero, List.set_cons_succ])
      refine wpAnyH_take (i := 9) (v := ?_) rfl (by kernel_rfl) (by kernel_rfl) (by kernel_rfl) (fun _ _ _ h => h) (Or.inl ⟨by rfl, ?_⟩) (by assumption) ?_
      rotate_left
      · (intro w hSw; have q0 := hSw; go_simp; (try with_reducible rfl))
      (try simp only [List.getElem_toArray, List.getElem_cons_zero, List.getElem_cons_succ, Act.put, List.setIfInBounds_toArray, List.set_cons_zero, List.set_cons_succ])
      refine wpAnyH_take (i := 10) (v := ?_) rfl (by kernel_rfl) (by kernel_rfl) (by kernel_rfl) (fun _ _ _ h => h) (Or.inl ⟨by rfl, ?_⟩) (by assumption) ?_
      rotate_left
      · (intro w hSw; have q0 := hSw; go_simp; (try with_reducible rfl))
      (try simp only [List.getElem_toArray, List.getElem_cons_zero, List.getElem_cons_succ, Act.put, List.setIfInBounds_toArray, List.set_cons_zero, List.set_cons_succ])
      refine wpAnyH_take (i := 11) (v := ?_) rfl (by kernel_rfl) (by kernel_rfl) (by kernel_rfl) (fun _ _ _ h => h) (Or.inl ⟨by rfl, ?_⟩) (by assumption) ?_
      rotate_left
      · (intro w hSw; have q0 := hSw; go_simp; (try with_reducible rfl))
      (try simp only [List.getElem_toArray, List.getElem_cons_zero, List.getElem_cons_succ, Act.put, List.setIfInBounds_toArray, List.set_cons_zero, List.set_cons_succ])
      refine wpAnyH_take (i := 12) (v := ?_) rfl (by kernel_rfl) (by kernel_rfl) (by kernel_rfl) (fun _ _ _ h => h) (Or.inl ⟨by rfl, ?_⟩) (by assumption) ?_
      rotate_left
      · (intro w hSw; have q0 := hSw; go_simp; (try with_reducible rfl))
      (try simp only [List.getElem_toArray, List.getElem_cons_zero, List.getElem_cons_succ, Act.put, List.setIfInBounds_toArray, List.set_cons_zero, List.set_cons_succ])
      refine wpAnyH_take (i := 13) (v := ?_) rfl (by kernel_rfl) (by kernel_rfl) (by kernel_rfl) (fun _ _ _ h => h) (Or.inl ⟨by rfl, ?_⟩) (by assumption) ?_
      rotate_left
      · (intro w hSw; have q0 := hSw; go_simp; (try with_reducible rfl))
      (try simp only [List.getElem_toArray, List.getElem_cons_zero, List.getElem_cons_succ, Act.put, List.setIfInBounds_toArray, List.set_cons_zero, List.set_cons_succ])
      have K7 := Lib.hid (K5.out.step hbv)
      clear hbv hbx hbw hby hbz hb0 KS K5 HOF HBO
      refine wpAnyH_done (by kernel_rfl) ?_ _
      obtain ⟨⟨y0, y1, y2, y3⟩, _⟩ := si_cells K7.out.si
      have htd := HTD.out
      have hEi : (E : Int) ≤ (V.length : Int) := by omega
      have haEi : ((atM V i : Nat) : Int) ≤ (E : Int) := by omega
      by_cases hlt : j - i < nn
      · have HV2 := Lib.hid ((if_pos (HSH.out.1 hlt)).symm.trans HVV.out)
        have dlt : decide (((j - i : Nat) : Int) < (nn : Int)) = true := decide_eq_true (by omega)
        clear HVV HSH
        generalize j - i = cnt at *
        go_upto_region 8 with (go_at_call 65; refine (HCN.out _).mono ?_; rintro e w8 ⟨rfl, bb⟩; have K8 := Lib.hid (K7.out.step bb); clear bb y0 y1 y2 y3)
        obtain ⟨⟨r0, r1, r2, r3, r4, r5, r6, r7, r8, r9⟩, t0, t1, t2, t3, t4, t5, t6, t7, t8, t9⟩ := out_cells K8.out.res
        go_wp2_with fail
        exact end_zero rfl _ K8.out.res noLab_out K8.out.bel (by omega) rfl rfl rfl HV2.out (fun _ _ h => h)
      have HV2 := Lib.hid ((if_neg (fun e => hlt (HSH.out.2 e))).symm.trans HVV.out)
      have dlt : decide (((j - i : Nat) : Int) < (nn : Int)) = false := decide_eq_false (by omega)
      have HJN : Hid (i + nn ≤ (chars V).length) := by have := HIJ.out; show _ ≤ _; omega
      clear HVV HSH HIJ
      have hcn : ¬ ((j - i : Nat) : Int) < (nn : Int) := by omega
      generalize j - i = cnt at *
      go_upto_region 10 with (go_at_call 65; refine (HCN.out _).mono ?_; rintro e w8 ⟨rfl, bb⟩; have K8 := Lib.hid (K7.out.step bb); clear bb y0 y1 y2 y3)
      clear K7 HCN htd HTD dlt hEi haEi hlt hcn
      go_wp2_with fail
      go_loopw [18, 69] (fun x t wr => ∃ m : Nat, m ≤ nn ∧ x = .int .i64 (atM V (i + m) : Nat) ∧ t = .int .i64 (m : Nat) ∧ Below w8.heap.size w8 wr) (fun _ t _ => nn - (intOf t).toNat)
      case atStart => exact ⟨0, Nat.zero_le _, rfl, rfl, Below.refl _ _⟩
      case round =>
        obtain ⟨m, hm, rfl, rfl, hb⟩ := hrel
        have K9 := Lib.hid (K8.out.step hb)
        by_cases hlt : m < nn
        · obtain ⟨⟨y0, y1, y2, y3⟩, _⟩ := si_cells K9.out.si
          have hml : (m : Int) < (nn : Int) := by omega
          go_wp2_with (go_at_call 42; refine (HNX.out (i + m) (by have := HJN.out; omega) _).mono ?_; rintro e w10 ⟨rfl, hbb⟩)
          go_roundw
          case rel => exact ⟨m + 1, hlt, rfl, by go_num, hb.trans (hbb.mono hb.size)⟩
          case measure => simp [intOf]; omega
        · obtain rfl : m = nn := by omega
          obtain ⟨⟨y0, y1, y2, y3⟩, _⟩ := si_cells K9.out.si
          clear K8 hb HNX HJN
          go_upto_region 14 with fail
          go_upto_region 15 with (go_at_call 66; refine (keyEncode_one k _).mono ?_; rintro e wx1 ⟨X, rfl, hX, _, bb⟩; obtain rfl : X = sg := hX.out.trans HEN.out; have K10 := Lib.hid (K9.out.step bb); clear bb hX y0 y1 y2 y3)
          go_upto_region 16 with (first
            | (go_at_call 68; refine (HRP.out _).mono ?_; rintro e wx2 ⟨rfl, bb⟩; have K11 := Lib.hid (K10.out.step bb); clear bb)
            | (go_at_call 67; refine (HMK.out _).mono ?_; rintro e wm ⟨Am, cm, rfl, own, bb⟩; dsimp only at own ⊢; have K12 := Lib.hid ((K11.out.step bb).step ((Below.refl _ _).alloc (Nat.le_refl _) (.cells #[.string ⟨R.toArray⟩, .slice Am rk.length cm] 32))); have TM : Hid (Txu (wm.alloc (.cells #[.string ⟨R.toArray⟩, .slice Am rk.length cm] 32)) Am R rk) := grow_txu (HOK.out.txt (Row.of_own own)) _ ((Below.refl _ _).alloc (Nat.le_refl _) _); have BM := Lib.hid (Blk.new wm 32 #[.string ⟨R.toArray⟩, .slice Am rk.length cm]); clear own bb))
          generalize hg20 : wm.heap.size = g20 at *
          generalize wm.alloc (.cells #[.string ⟨R.toArray⟩, .slice Am rk.length cm] 32) = wd at *
          clear hg20 K9 K10 K11 HRP HMK
          obtain ⟨⟨y0, y1, y2, y3⟩, _⟩ := si_cells K12.out.si
          obtain ⟨x0, x1⟩ := txt_cells BM.out
          go_upto_region 19 with (go_at_call 69; refine (oxRepl_any A1 Am c1 cm S l y hy V _ _ R rk HRK.out _ K12.out.tS TM.out).mono ?_; rw [HTM.out]; rintro ee w6 ⟨A4, c4, B4, d4, rfl, rA, rB, bb⟩; dsimp only at rA rB ⊢; have KD := Lib.hid ((K12.out.step bb).step ((Below.refl _ _).alloc (Nat.le_refl _) (.cells #[.int .i64 ea, .string ⟨ES.toArray⟩, .slice A4 el.length c4, .string ⟨EX.toArray⟩, .slice B4 em.length d4] 41))); have BT := Lib.hid ((BM.out.below bb BM.out.lt).alloc (.cells #[.int .i64 ea, .string ⟨ES.toArray⟩, .slice A4 el.length c4, .string ⟨EX.toArray⟩, .slice B4 em.length d4] 41)); have RA := Lib.hid (row_step rA ((Below.refl _ _).alloc (Nat.le_refl _) (.cells #[.int .i64 ea, .string ⟨ES.toArray⟩, .slice A4 el.length c4, .string ⟨EX.toArray⟩, .slice B4 em.length d4] 41))); have RB := Lib.hid (row_step rB ((Below.refl _ _).alloc (Nat.le_refl _) (.cells #[.int .i64 ea, .string ⟨ES.toArray⟩, .slice A4 el.length c4, .string ⟨EX.toArray⟩, .slice B4 em.length d4] 41))); have VE := Lib.hid (Blk.new w6 41 #[.int .i64 ea, .string ⟨ES.toArray⟩, .slice A4 el.length c4, .string ⟨EX.toArray⟩, .slice B4 em.length d4]); clear rA rB bb y0 y1 y2 y3 x0 x1)
          generalize hg21 : w6.heap.size = g21 at *
          generalize w6.alloc (.cells #[.int .i64 ea, .string ⟨ES.toArray⟩, .slice A4 el.length c4, .string ⟨EX.toArray⟩, .slice B4 em.length d4] 41) = we at *
          clear hg21 K12 TM BM
          by_cases hen : en = 0
          · subst hen
            have HV4 := Lib.hid ((if_pos rfl).symm.trans HV2.out)
            obtain ⟨e0, e1, e2, e3, e4⟩ := ed_cells VE.out
            obtain ⟨x0, x1⟩ := txt_cells BT.out
            obtain ⟨⟨r0, r1, r2, r3, r4, r5, r6, r7, r8, r9⟩, t0, t1, t2, t3, t4, t5, t6, t7, t8, t9⟩ := out_cells KD.out.res
            go_wp2_with fail
            exact end_out (A := A4) (B := B4) (C := none) (c := c4) (d := d4) (k := 0) (R := []) (l := el) (m := em) (q := []) rfl _ KD.out.res noLab_out KD.out.bel (by omega) RA.out RB.out (.inl rfl) rfl rfl rfl HV4.out (fun _ _ h => h)
          · have HV3 := Lib.hid ((if_neg hen).symm.trans HV2.out)
            have hn2 : ((en : Int) != 0) = true := by rw [bne_iff_ne]; omega
            obtain ⟨⟨r0, r1, r2, r3, r4, r5, r6, r7, r8, r9⟩, t0, t1, t2, t3, t4, t5, t6, t7, t8, t9⟩ := out_cells KD.out.res
            go_wp2_with fail
            exact end_zero rfl _ KD.out.res noLab_out KD.out.bel (by omega) rfl rfl rfl HV3.out (fun _ _ h => h)
    · have HV : Hid ((out0, 2) = v) := (hbad (.inr (.inl hk))).symm
      rw [decide_eq_false hk] at HMY
      clear hbad hv hV he0 hvl hk
      go_enter Tryz.func20, Tryz.ntmps20
      go_upto_region 1 with fail
      generalize (w.alloc (.cells #[.string ⟨S.toArray⟩, .slice A l.length c] 32)).alloc (.cells #[.int .i64 0, .string ⟨#[]⟩, .slice none 0 0, .string ⟨#[]⟩, .slice none 0 0, .string ⟨#[]⟩, .slice none 0 0, .bool false, .bool false, .int .i64 0] 43) = wx at *
      obtain ⟨z0, z1⟩ := txt_cells BX.out.1
      go_upto_region 2 with (go_at_call 46; refine (HLK.out _ TX.out).mono ?_; rintro e w2 ⟨A1, c1, rfl, tS, bb⟩; have K2 : Hid (DoK w (w2.alloc (.cells #[.string ⟨S.toArray⟩, .slice A1 l.length c1, .int .u64 (y : Nat), .string ⟨V.toArray⟩] 89)) w2.heap.size (w.heap.size + 1) A1 c1 S l y V w.heap.size 32 #[.string ⟨S.toArray⟩, .slice A l.length c]) := ⟨Blk.new w2 _ _, (BX.out.2.1.below bb BX.out.2.1.lt).alloc _, (BX.out.1.below bb BX.out.1.lt).alloc _, (BX.out.2.2.trans (bb.mono BX.out.2.2.size)).alloc (BX.out.2.2.trans (bb.mono BX.out.2.2.size)).size _, grow_txu tS _ ((Below.refl _ _).alloc (Nat.le_refl _) _)⟩; have N2 : Hid (w.heap.size + 1 < w2.heap.size) := Nat.lt_of_lt_of_le BX.out.2.1.lt bb.size; clear tS bb z0 z1)
      generalize hg10 : w2.heap.size = g10 at *
      generalize w2.alloc (.cells #[.string ⟨S.toArray⟩, .slice A1 l.length c1, .int .u64 (y : Nat), .string ⟨V.toArray⟩] 89) = w3 at *
      clear hg10 BX TX HLK
      obtain ⟨⟨r0, r1, r2, r3, r4, r5, r6, r7, r8, r9⟩, t0, t1, t2, t3, t4, t5, t6, t7, t8, t9⟩ := out_cells K2.out.res
      go_wp2_with (go_at_call 62; refine (HMY.out _).mono ?_; rintro e w4 ⟨rfl, hw4⟩; subst hw4)
      exact end_zero rfl _ K2.out.res noLab_out K2.out.bel (by omega) rfl rfl rfl HV.out (fun _ _ h => h)
  · have HV : Hid ((out0, 2) = v) := (hbad (.inl hn0)).symm
    have hn2 : ((e0 : Int) != 0) = true := by rw [bne_iff_ne]; omega
    clear hbad hv hV he0 hvl HMY
    go_enter Tryz.func20, Tryz.ntmps20
    go_upto_region 1 with fail
    generalize (w.alloc (.cells #[.string ⟨S.toArray⟩, .slice A l.length c] 32)).alloc (.cells #[.int .i64 0, .string ⟨#[]⟩, .slice none 0 0, .string ⟨#[]⟩, .slice none 0 0, .string ⟨#[]⟩, .slice none 0 0, .bool false, .bool false, .int .i64 0] 43) = wx at *
    obtain ⟨z0, z1⟩ := txt_cells BX.out.1
    go_upto_region 2 with (go_at_call 46; refine (HLK.out _ TX.out).mono ?_; rintro e w2 ⟨A1, c1, rfl, tS, bb⟩; have K2 : Hid (DoK w (w2.alloc (.cells #[.string ⟨S.toArray⟩, .slice A1 l.length c1, .int .u64 (y : Nat), .string ⟨V.toArray⟩] 89)) w2.heap.size (w.heap.size + 1) A1 c1 S l y V w.heap.size 32 #[.string ⟨S.toArray⟩, .slice A l.length c]) := ⟨Blk.new w2 _ _, (BX.out.2.1.below bb BX.out.2.1.lt).alloc _, (BX.out.1.below bb BX.out.1.lt).alloc _, (BX.out.2.2.trans (bb.mono BX.out.2.2.size)).alloc (BX.out.2.2.trans (bb.mono BX.out.2.2.size)).size _, grow_txu tS _ ((Below.refl _ _).alloc (Nat.le_refl _) _)⟩; have N2 : Hid (w.heap.size + 1 < w2.heap.size) := Nat.lt_of_lt_of_le BX.out.2.1.lt bb.size; clear tS bb z0 z1)
    generalize hg10 : w2.heap.size = g10 at *
    generalize w2.alloc (.cells #[.string ⟨S.toArray⟩, .slice A1 l.length c1, .int .u64 (y : Nat), .string ⟨V.toArray⟩] 89) = w3 at *
    clear hg10 BX TX HLK
    obtain ⟨⟨r0, r1, r2, r3, r4, r5, r6, r7, r8, r9⟩, t0, t1, t2, t3, t4, t5, t6, t7, t8, t9⟩ := out_cells K2.out.res
    go_wp2_with fail
    exact end_zero rfl _ K2.out.res noLab_out K2.out.bel (by omega) rfl rfl rfl HV.out (fun _ _ h => h)
end Go.Proofs.YtgpmfkedcoiopaaGreatDoor

/-
  Contracts of the document's own answers, layer 3: Raise.
-/
import Derived.Test.YthdflibljngjiaaRunRefS
import Derived.Test.YthdflibljngjiaaRefSets
namespace Go.Proofs.Ythdflibljngjiaa
open Go.RowKit

/-- the places from F to k are raised -/
def raiseTo (b : List Nat) (F k y : Nat) : List Nat := b.take F ++ (cut b F k).map (fun x => x ||| y) ++ b.drop k
theorem raiseTo_start (b : List Nat) (F y : Nat) : raiseTo b F F y = b := by
  unfold raiseTo cut
  simp
theorem raiseTo_front {b : List Nat} {F k y : Nat} (h : F ≤ k) (hk : k ≤ b.length) : (b.take F ++ (cut b F k).map (fun x => x ||| y)).length = k := by
  have := cut_len (b := b) (f := F) (t := k) (by omega) (by omega) (by omega)
  rw [List.length_append, List.length_map, List.length_take]
  omega
theorem raiseTo_len {b : List Nat} {F k y : Nat} (h : F ≤ k) (hk : k ≤ b.length) : (raiseTo b F k y).length = b.length := by
  unfold raiseTo
  rw [List.length_append, raiseTo_front h hk, List.length_drop]
  omega
theorem raiseTo_at {b : List Nat} {F k y : Nat} (h : F ≤ k) (hk : k < b.length) : (raiseTo b F k y)[k]? = some b[k] := by
  unfold raiseTo
  rw [List.getElem?_append_right (by rw [raiseTo_front h (by omega)]; omega), raiseTo_front h (by omega), List.getElem?_drop]
  simp [hk]
theorem raiseTo_step {b : List Nat} {F k y : Nat} (h : F ≤ k) (hk : k < b.length) : (raiseTo b F k y).set k (b[k] ||| y) = raiseTo b F (k + 1) y := by
  unfold raiseTo
  rw [List.set_append_right _ _ (by rw [raiseTo_front h (by omega)]; omega), raiseTo_front h (by omega)]
  rw [Nat.sub_self, List.drop_eq_getElem_cons hk, List.set_cons_zero]
  have e : cut b F ((k + 1 : Nat) : Int) = cut b F k ++ [b[k]] := by
    unfold cut
    rw [show (((k + 1 : Nat) : Int) - (F : Int)).toNat = (k - F) + 1 by omega, show ((k : Int) - (F : Int)).toNat = k - F by omega, Int.toNat_natCast]
    have hl : k - F < (b.drop F).length := by rw [List.length_drop]; omega
    rw [List.take_succ_eq_append_getElem hl]
    congr 2
    rw [List.getElem_drop]
    congr 1
    omega
  rw [e, List.map_append, List.map_cons, List.map_nil, List.append_assoc, List.append_assoc, List.append_assoc]
  rfl
theorem raiseTo_mem {b : List Nat} {F k y : Nat} (hb : ∀ x ∈ b, x < 18446744073709551616) (hy : y < 18446744073709551616) : ∀ x ∈ raiseTo b F k y, x < 18446744073709551616 := by
  unfold raiseTo
  refine mem_append_lt (mem_append_lt (fun x hx => hb x (List.mem_of_mem_take hx)) (fun x hx => ?_)) (fun x hx => hb x (List.mem_of_mem_drop hx))
  obtain ⟨z, hz, rfl⟩ := List.mem_map.1 hx
  exact or_lt (cut_mem hb z hz) hy
theorem own_one {w : World} {base e n c g : Nat} {xs : List Nat} (h : w.ownsRow base e 1 (.slice (some ⟨g, 0, none⟩) n c) n (xs.map u64v)) (j v : Nat) :
    (w.setCell ⟨g, j, none⟩ (.int .u64 (v : Nat))).ownsRow base e 1 (.slice (some ⟨g, 0, none⟩) n c) n ((xs.set j v).map u64v) := by
  have := own_set h j (.int .u64 (v : Nat))
  rw [List.map_set]
  exact this

set_option maxHeartbeats 1000000 in
theorem refRaise_any (A : Option Addr) (c B : Nat) (l : List RunP) (f t : Int) (y : Nat) (hy : y < 18446744073709551616) (hf : Fits l) (hlen : l.length ≤ maxLen) (w : World) (hB : B ≤ w.heap.size) (h : Row w B A (flatR l)) :
    Calls Try.prog 30 #[.slice A l.length c, .int .i64 f, .int .i64 t, .int .u64 y] w (Gives w (raiseOf l f t y)) := by
  have HF := Lib.hid hf
  clear hf
  by_cases hw : withinB l f t = true
  · obtain ⟨hg, h0, h1, h2, h3, hs⟩ := within_of hw
    have HR := Lib.hid (raiseOf_ok (y := y) hw)
    obtain ⟨F, rfl⟩ : ∃ F : Nat, f = (F : Int) := ⟨f.toNat, by omega⟩
    obtain ⟨T, rfl⟩ : ∃ T : Nat, t = (T : Int) := ⟨t.toNat, by omega⟩
    rw [Int.toNat_natCast, Int.toNat_natCast] at HR
    have HR2 : Hid (raiseOf l (F : Int) (T : Int) y = (pack (raiseTo (bytesOf l) F T y), 0)) := HR.out
    have HB := Lib.hid (bytesOf_mem HF.out)
    have hFT : F ≤ T := by omega
    have hTl : T ≤ (bytesOf l).length := by omega
    clear HR h0 h1 h2
    go_enter Try.func30, Try.ntmps30
    go_wp2_with (first
      | (go_at_call 40; refine (refWithin_any A c B l (F : Int) (T : Int) HF.out hlen w hB h).mono ?_; rintro e w1 ⟨rfl, hb1⟩; rw [hw]; have z1 := hb1.size)
      | (go_at_call 34; refine (refBytes_any A c B l HF.out hlen hs w1 (by omega) (h.below (hb1.mono hB))).mono ?_; rintro e w2 ⟨A2, c2, rfl, hown2, hb2⟩; have z2 := hb2.size; have hcap := own_cap hown2))
    have hb12 := hb1.trans (hb2.mono z1)
    generalize bytesOf l = b at *
    generalize hN : b.length = N at *
    have HN := Lib.hid hN
    clear hN hb1 hb2
    go_loopw [11] (fun i wr => ∃ k : Nat, F ≤ k ∧ k ≤ T ∧ i = .int .i64 k ∧ wr.ownsRow w1.heap.size 33 1 (.slice A2 N c2) N ((raiseTo b F k y).map u64v) ∧ Below w.heap.size w wr) (fun i _ => T - (intOf i).toNat)
    case atStart => exact ⟨F, Nat.le_refl _, hFT, rfl, by rw [raiseTo_start]; exact hown2, hb12⟩
    case round =>
      clear hown2 hb12 z2
      obtain ⟨k, hFk, hkT, rfl, hown, hb⟩ := hrel
      have z := hb.size
      by_cases hlt : k < T
      · have hkl : k < b.length := by rw [HN.out]; omega
        have HX := Lib.hid (raiseTo_at (F := F) (y := y) hFk hkl)
        have HS := Lib.hid (raiseTo_step (F := F) (y := y) hFk hkl)
        have hxk := HB.out b[k] (List.getElem_mem hkl)
        generalize b[k] = x at *
        obtain ⟨g1, c1', e1, hg1, hg2⟩ := own_at hown (by omega)
        injection e1 with e2 e3 e4
        subst e2 e4
        clear e3
        have hcell : wr.cell? ((⟨g1, 0, none⟩ : Addr).add k) = some (.int .u64 (x : Nat)) := by
          obtain ⟨ad, e, _, hc⟩ := (Row.of_own hown).at_ (k := k) (u := u64v x) (by rw [List.getElem?_map, HX.out]; rfl)
          injection e with e
          rw [e]; exact hc
        have hbk : ((⟨g1, 0, none⟩ : Addr).add k).block = g1 := by rw [base_add]
        have STEP : Hid (∀ w5, Below wr.heap.size wr w5 → (w5.setCell ((⟨g1, 0, none⟩ : Addr).add k) (.int .u64 ((x ||| y : Nat) : Int))).ownsRow w1.heap.size 33 1 (.slice (some ⟨g1, 0, none⟩) N c2) N ((raiseTo b F (k + 1) y).map u64v)) := fun w5 hb5 => by
          rw [base_add, ← HS.out]
          exact own_one (own_keep hown hb5 (Nat.le_refl _)) _ _
        have FRZ : Hid (∀ w5, Below wr.heap.size wr w5 → w5.frozen? ((⟨g1, 0, none⟩ : Addr).add k) = false ∧ w5.cell? ((⟨g1, 0, none⟩ : Addr).add k) = some (.int .u64 (x : Nat))) := fun w5 hb5 =>
          ⟨by rw [base_add]; exact own_frozen (own_keep hown hb5 (Nat.le_refl _)) k, by rw [hb5.cell (by rw [hbk]; exact hg2)]; exact hcell⟩
        have HBB : Hid (w.heap.size ≤ ((⟨g1, 0, none⟩ : Addr).add k).block) := by show _ ≤ _; rw [hbk]; omega
        clear hbk hown
        generalize hg : (⟨g1, 0, none⟩ : Addr) = ad1 at *
        have HG := Lib.hid hg
        clear hg
        go_wp2_with (go_at_call 45; refine (refJoin_any x y hxk hy wr).mono ?_; rintro e w5 ⟨rfl, hb5⟩; obtain ⟨f5, d5⟩ := FRZ.out w5 hb5)
        go_roundw
        case rel => exact ⟨k + 1, by omega, by omega, by go_num, STEP.out w5 hb5, Below.setCell (hb.trans (hb5.mono z)) HBB.out _⟩
        case measure => simp [intOf]; omega
      · obtain rfl : k = T := by omega
        have HL := Lib.hid (raiseTo_len (b := b) (y := y) hFk (by rw [HN.out]; exact hTl))
        have HM := Lib.hid (raiseTo_mem (F := F) (k := k) HB.out hy)
        rw [HN.out] at HL
        generalize raiseTo b F k y = X at *
        go_wp2_with (go_at_call 33; refine (refPack_n A2 c2 wr.heap.size N X HL.out HM.out (by omega) wr (Nat.le_refl _) (Row.of_own hown)).mono ?_; rintro e w9 ⟨A9, c9, rfl, hown9, hb9⟩)
        go_ret2
        rw [HR2.out]
        exact ⟨A9, c9, rfl, own_base hown9 (by omega), hb.trans (hb9.mono z)⟩
  · have HR := Lib.hid (raiseOf_bad (y := y) hw)
    have hw' : withinB l f t = false := by simpa using hw
    go_enter Try.func30, Try.ntmps30
    go_wp2_with (go_at_call 40; refine (refWithin_any A c B l f t HF.out hlen w hB h).mono ?_; rintro e w1 ⟨rfl, hb1⟩; rw [hw'])
    go_ret2
    rw [HR.out]
    exact gives_nil hb1
end Go.Proofs.Ythdflibljngjiaa

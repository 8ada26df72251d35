/-
  The landed putLines: layer 14.
-/
import Derived.Test.YtgpmfkedcoiopaaGreatDoorOxPut
namespace Go.Proofs.YtgpmfkedcoiopaaGreatDoor
open Go.RowKit
set_option maxRecDepth 100000

theorem times_two {U S : List UInt8} {q l : List RunP} (hu : goodT U q = true) (hs : goodT S l = true) (n : Nat) :
    timesM [(U, q), (S, l)] n = if U.length + S.length ≤ 4096 then (if (tmT (U ++ S) (pack (bytesOf q ++ bytesOf l)) n).2 = 0 then some (tmT (U ++ S) (pack (bytesOf q ++ bytesOf l)) n).1 else none) else none := by
  have e1 : bytesC [(U, q), (S, l)] = U ++ S := by simp [bytesC]
  have e2 : labsC [(U, q), (S, l)] = bytesOf q ++ bytesOf l := by simp [labsC]
  have e3 : goodC [(U, q), (S, l)] = true := by simp [goodC, hu, hs]
  by_cases h : U.length + S.length ≤ 4096
  · rw [if_pos h]
    have hl : (U ++ S).length ≤ 4096 := by rw [List.length_append]; exact h
    have hp : pileM [(U, q), (S, l)] = some (U ++ S, pack (bytesOf q ++ bytesOf l)) := by
      unfold pileM
      rw [e1, e2, e3, if_pos ⟨rfl, hl⟩]
    have hg : goodT (U ++ S) (pack (bytesOf q ++ bytesOf l)) = true := good_pack hl (by rw [List.length_append, List.length_append, (goodT_size hu).2.2, (goodT_size hs).2.2])
    have h1 := times_tm hg n
    have hp1 : pileM [(U ++ S, pack (bytesOf q ++ bytesOf l))] = some (U ++ S, pack (bytesOf q ++ bytesOf l)) := by
      unfold pileM
      rw [if_pos ⟨by simp [goodC, hg], by simp only [bytesC, List.flatMap_cons, List.flatMap_nil, List.append_nil]; exact hl⟩]
      simp only [bytesC, labsC, List.flatMap_cons, List.flatMap_nil, List.append_nil, bytesOf_pack]
    have h2 : timesM [(U, q), (S, l)] n = timesM [(U ++ S, pack (bytesOf q ++ bytesOf l))] n := by
      unfold timesM
      rw [hp, hp1]
    rw [h2, h1]
    unfold tmT
    split
    · rw [if_pos rfl, bytesOf_pack]
    · rw [if_neg (by decide)]
  · rw [if_neg h]
    have hp : pileM [(U, q), (S, l)] = none := by
      unfold pileM
      rw [e1, if_neg (fun e => h (by have := e.2; rw [List.length_append] at this; exact this))]
    unfold timesM
    rw [hp]
theorem good_nl (y : Nat) : goodT [10] (pack (List.replicate 1 y)) = true := good_pack (by decide) (by simp)
theorem make_nl (y : Nat) : makeOf [10] y = (([10], pack (List.replicate 1 y)), 0) := if_pos (by decide)
/-- what is put, and in which order -/
def frontL (V : List UInt8) (q : Nat) (ah : Bool) (X : List UInt8) (m : List RunP) (y : Nat) : TP := if ah = true ∨ q + 1 < countL V then (X, m) else nlT y
def backL (V : List UInt8) (q : Nat) (ah : Bool) (X : List UInt8) (m : List RunP) (y : Nat) : TP := if ah = true ∨ q + 1 < countL V then nlT y else (X, m)
def pairL (V : List UInt8) (q : Nat) (ah : Bool) (X : List UInt8) (m : List RunP) (y : Nat) : TP × Nat := catT (frontL V q ah X m y).1 (frontL V q ah X m y).2 (backL V q ah X m y).1 (backL V q ah X m y).2
theorem PbK.far {w wr : World} {A A2 : Option Addr} {c c2 : Nat} {S X : List UInt8} {l m : List RunP} {y : Nat} {V : List UInt8} (h : PbK w wr A c S l y V A2 c2 X m) {g T : Nat} {cs : Array Value} (hg : Blk wr g T cs) (hn : NoLab cs) (hlow : w.heap.size + 1 + 1 < g) (us : List (Nat × Value)) : PbK w (setMany wr g us) A c S l y V A2 c2 X m :=
  ⟨setMany_far h.si (by omega) us, setMany_far h.tx (by omega) us, setMany_far h.res (by omega) us, setMany_below h.bel (by omega) us, setMany_txu h.tS hg hn us, setMany_txu h.tX hg hn us⟩
def tailL (S : List UInt8) (l : List RunP) (y P F : Nat) (c : TP × Nat) (t : TP × Nat) : OutP × Nat :=
  if c.2 = 0 then
    if t.2 = 0 then
      if (turnedM S l y (P : Nat) (P : Nat) t.1.1 t.1.2 true).2 = 0 then
        (⟨(turnedM S l y (P : Nat) (P : Nat) t.1.1 t.1.2 true).1.1, [], [], false, false, (firstL (turnedM S l y (P : Nat) (P : Nat) t.1.1 t.1.2 true).1.2 (F : Nat) : Nat)⟩, 0)
      else (out0, (turnedM S l y (P : Nat) (P : Nat) t.1.1 t.1.2 true).2)
    else (out0, t.2)
  else (out0, c.2)
def ptL (S : List UInt8) (l : List RunP) (V : List UInt8) (y a : Nat) (X : List UInt8) (m : List RunP) (ah : Bool) (n : Nat) : OutP × Nat :=
  tailL S l y (putAt V (ofL V (a : Nat)) ah) (putLine (ofL V (a : Nat)) ah) (pairL V (ofL V (a : Nat)) ah X m y) (tmT (pairL V (ofL V (a : Nat)) ah X m y).1.1 (pairL V (ofL V (a : Nat)) ah X m y).1.2 n)
set_option maxHeartbeats 32000000 in
theorem oxPutL_any (A A2 : Option Addr) (c c2 : Nat) (S : List UInt8) (l : List RunP) (y : Nat) (hy : y < 18446744073709551616) (V : List UInt8) (hVl : V.length ≤ 4096) (a : Nat) (_ : a ≤ V.length) (X : List UInt8) (m : List RunP) (hgX : goodT X m = true) (ah : Bool) (n : Nat) (hn1 : 1 ≤ n) (hn2 : n ≤ 1000) (w : World) (h : Txu w A S l) (hX : Txu w A2 X m) :
    Calls Tryz.prog 76 #[.agg #[.string ⟨S.toArray⟩, .slice A l.length c, .int .u64 (y : Nat), .string ⟨V.toArray⟩], .int .i64 (a : Nat), .agg #[.string ⟨X.toArray⟩, .slice A2 m.length c2], .bool ah, .int .i64 (n : Nat)] w (GivesO w (ptL S l V y a X m ah n)) := by
  have HOF := Lib.hid (fun wx => linOf_any V (by omega) (a : Nat) wx)
  have hq : ofL V (a : Nat) < countL V := ofL_le V (a : Nat)
  have hcl := countL_le V
  have HMK := Lib.hid (fun wx => stpMake_any [10] (by decide) y hy wx)
  rw [make_nl] at HMK
  have gnl := good_nl y
  have hfn : Fits (pack (List.replicate 1 y)) := (okT_make [10] y hy).2.1
  have hkn : (pack (List.replicate 1 y)).length ≤ 1000000 := by have := pack_len (List.replicate 1 y); rw [List.length_replicate] at this; omega
  obtain ⟨v, hv⟩ : ∃ v, ptL S l V y a X m ah n = v := ⟨_, rfl⟩
  rw [hv]
  unfold ptL at hv
  generalize ofL V (a : Nat) = q at *
  have hF : putLine q ah ≤ 4097 ∧ (ah = true → putLine q ah = q) ∧ (ah = false → putLine q ah = q + 1) := by
    unfold putLine
    exact ⟨by split <;> omega, fun e => if_pos e, fun e => if_neg (by rw [e]; decide)⟩
  have HBO := Lib.hid (fun wx => linBounds_any V (by omega) (putLine q ah : Nat) wx)
  have hB1 : ah = true ∨ q + 1 < countL V → boundsL V (putLine q ah : Nat) = ((putAt V q ah, (boundsL V (putLine q ah : Nat)).1.2), 0) := fun e => by
    have hh : 0 ≤ ((putLine q ah : Nat) : Int) ∧ ((putLine q ah : Nat) : Int) < (countL V : Int) := by
      unfold putLine; split
      · omega
      · next h => rcases e with e | e
                  · exact absurd e h
                  · omega
    have e2 : putAt V q ah = (boundsL V (putLine q ah : Nat)).1.1 := by
      unfold putAt putLine
      split
      · rfl
      · next h => rcases e with e | e
                  · exact absurd e h
                  · exact if_pos e
    have e3 : (boundsL V (putLine q ah : Nat)).2 = 0 := by unfold boundsL; rw [if_pos hh]
    rw [e2]
    exact Prod.ext rfl e3
  have hB2 : ¬(ah = true ∨ q + 1 < countL V) → boundsL V (putLine q ah : Nat) = ((0, 0), 2) ∧ putAt V q ah = V.length := fun e => by
    have e0 : ¬ ah = true := fun h => e (.inl h)
    have e1 : ¬ q + 1 < countL V := fun h => e (.inr h)
    unfold putAt putLine
    rw [if_neg e0, if_neg e0, if_neg e1]
    refine ⟨?_, rfl⟩
    unfold boundsL
    rw [if_neg (by omega)]
  have hP : putAt V q ah ≤ 4096 := by
    unfold putAt
    have hb : ∀ i, (boundsL V i).1.1 ≤ V.length := fun i => (bounds_leP V i).1
    split
    · have := hb (q : Nat); omega
    · split
      · have := hb ((q + 1 : Nat) : Int); omega
      · exact hVl
  have hpr : (ah = true ∨ q + 1 < countL V → pairL V q ah X m y = catT X m [10] (pack (List.replicate 1 y))) ∧ (¬(ah = true ∨ q + 1 < countL V) → pairL V q ah X m y = catT [10] (pack (List.replicate 1 y)) X m) := by
    unfold pairL frontL backL nlT
    exact ⟨fun e => by rw [if_pos e, if_pos e], fun e => by rw [if_neg e, if_neg e]⟩
  have hpg : (pairL V q ah X m y).2 = 0 → goodT (pairL V q ah X m y).1.1 (pairL V q ah X m y).1.2 = true := fun e => by
    by_cases hd : ah = true ∨ q + 1 < countL V
    · rw [hpr.1 hd] at e ⊢
      rw [catT_two hgX gnl] at e ⊢
      split at e
      · next h => rw [if_pos h]; exact good_pack (by rw [List.length_append]; exact h) (by rw [List.length_append, List.length_append, (goodT_size hgX).2.2, (goodT_size gnl).2.2])
      · exact absurd e (by decide)
    · rw [hpr.2 hd] at e ⊢
      rw [catT_two gnl hgX] at e ⊢
      split at e
      · next h => rw [if_pos h]; exact good_pack (by rw [List.length_append]; exact h) (by rw [List.length_append, List.length_append, (goodT_size hgX).2.2, (goodT_size gnl).2.2])
      · exact absurd e (by decide)
  have okp : OkT (pairL V q ah X m y) := by
    by_cases hd : ah = true ∨ q + 1 < countL V
    · rw [hpr.1 hd]; exact okT_cat hX.hf hfn
    · rw [hpr.2 hd]; exact okT_cat hfn hX.hf
  have hdd : (ah = true ∨ q + 1 < countL V) ∨ ¬(ah = true ∨ q + 1 < countL V) := Classical.em _
  generalize putAt V q ah = P at *
  generalize putLine q ah = F at *
  generalize pairL V q ah X m y = pr at *
  obtain ⟨⟨C, cl⟩, cn⟩ := pr
  dsimp only at hv hpg
  have HTI := Lib.hid (fun (e : cn = 0) A c wx hx => oxTimes_any C cl (hpg e) n hn1 hn2 A c wx hx)
  have okt := fun (e : cn = 0) => (okT_tm (hpg e) okp.2.1 n).1
  have hkl := fun (e : cn = 0) => tm_runs (hpg e) n
  generalize tmT C cl n = tt at *
  obtain ⟨⟨Y, k⟩, tn⟩ := tt
  unfold tailL at hv
  dsimp only at hv okt hkl
  have okv := turned_view S l y (P : Nat) (P : Nat) Y k true
  obtain ⟨tm, htm⟩ : ∃ tm, turnedM S l y (P : Nat) (P : Nat) Y k true = tm := ⟨_, rfl⟩
  rw [htm] at hv okv
  obtain ⟨⟨⟨ea, ES, el, EX, em⟩, W⟩, en⟩ := tm
  dsimp only at hv okv
  have HFI := Lib.hid (fun wx => linFirst_any W (by omega) (F : Nat) wx)
  obtain ⟨fi, hfi⟩ : ∃ fi, firstL W (F : Nat) = fi := ⟨_, rfl⟩
  rw [hfi] at hv HFI
  have HV := Lib.hid hv
  have OKP := Lib.hid okp
  have OKT := Lib.hid okt
  have HKL := Lib.hid hkl
  have HTM := Lib.hid htm
  have HPR := Lib.hid hpr
  have HB1 := Lib.hid hB1
  have HB2 := Lib.hid hB2
  have HFF := Lib.hid hF
  have hFl := hF.1
  have hql : q ≤ 4096 := by omega
  have HNL : Hid (Fits (pack (List.replicate 1 y)) ∧ (pack (List.replicate 1 y)).length ≤ 1000000) := ⟨hfn, hkn⟩
  generalize hnl : pack (List.replicate 1 y) = nl at *
  have K0 : Hid (PbK w _ A c S l y V A2 c2 X m) := Lib.hid (PbK.start h hX)
  have HDD := Lib.hid hdd
  clear hv okp okt hkl htm okv hpr hB1 hB2 hF hpg h hX hgX hn1 hn2 hq hcl gnl hfn hkn hfi hnl hdd
  go_enter Tryz.func76, Tryz.ntmps76
  go_upto_region 1 with fail
  generalize ((w.alloc (.cells #[.string ⟨S.toArray⟩, .slice A l.length c, .int .u64 (y : Nat), .string ⟨V.toArray⟩] 89)).alloc (.cells #[.string ⟨X.toArray⟩, .slice A2 m.length c2] 32)).alloc (.cells #[.int .i64 0, .string ⟨#[]⟩, .slice none 0 0, .string ⟨#[]⟩, .slice none 0 0, .string ⟨#[]⟩, .slice none 0 0, .bool false, .bool false, .int .i64 0] 43) = wx at *
  obtain ⟨⟨y0, y1, y2, y3⟩, _⟩ := si_cells K0.out.si
  go_upto_region 2 with (go_at_call 41; refine (HOF.out _).mono ?_; rintro e w2 ⟨rfl, bb⟩; have K2 := Lib.hid (K0.out.step bb); clear y0 y1 y2 y3 bb)
  clear HOF K0
  obtain ⟨⟨y0, y1, y2, y3⟩, _⟩ := si_cells K2.out.si
  cases ah
  case' false =>
    have hFq : (q : Int) + 1 = (F : Int) := by have := HFF.out.2.2 rfl; omega
    clear HFF
    go_upto_region 4 with fail
    clear hFq
  case' true =>
    have hFq : F = q := HFF.out.2.1 rfl
    subst hFq
    clear HFF
    go_upto_region 4 with fail
  all_goals
    go_upto_region 7 with (go_at_call 67; refine (HMK.out _).mono ?_; rintro e w4 ⟨A13, c13, rfl, own, bb⟩; dsimp only at own ⊢; have K4 := Lib.hid ((K2.out.step bb).step ((Below.refl _ _).alloc (Nat.le_refl _) (.cells #[.string ⟨[10].toArray⟩, .slice A13 nl.length c13] 32))); have TE : Hid (Txu (w4.alloc (.cells #[.string ⟨[10].toArray⟩, .slice A13 nl.length c13] 32)) A13 [10] nl) := grow_txu (show Txu w4 A13 [10] nl from ⟨(by decide), HNL.out.1, (Nat.le_trans HNL.out.2 (by decide)), Row.of_own own⟩) _ ((Below.refl _ _).alloc (Nat.le_refl _) _); have E13 := Lib.hid (Blk.new w4 32 #[.string ⟨[10].toArray⟩, .slice A13 nl.length c13]); have N13 : Hid (w.heap.size + 1 + 1 < w4.heap.size) := (K2.out.step bb).res.lt; clear own bb y0 y1 y2 y3)
    generalize hg13 : w4.heap.size = g13 at *
    generalize w4.alloc (.cells #[.string ⟨[10].toArray⟩, .slice A13 nl.length c13] 32) = wb at *
    clear hg13 K2 HMK
    have hb0 : Below wb.heap.size wb wb := Below.refl _ _
    have hbz : Below wb.heap.size wb wb.drew := below_drewN hb0 1
    have KS : Hid (∀ w', Below wb.heap.size wb w' → ((w'.cell? ⟨w.heap.size + 1, 0, none⟩ = some (.string ⟨X.toArray⟩) ∧ w'.cell? ⟨w.heap.size + 1, 1, none⟩ = some (.slice A2 m.length c2)) ∧ (w'.cell? ⟨g13, 0, none⟩ = some (.string ⟨[10].toArray⟩) ∧ w'.cell? ⟨g13, 1, none⟩ = some (.slice A13 nl.length c13)))) := fun w' hb => ⟨txt_cells (K4.out.step hb).tx, txt_cells (E13.out.below hb E13.out.lt)⟩
    refine wp_region_held_drew (S := fun w' => ((w'.cell? ⟨w.heap.size + 1, 0, none⟩ = some (.string ⟨X.toArray⟩) ∧ w'.cell? ⟨w.heap.size + 1, 1, none⟩ = some (.slice A2 m.length c2)) ∧ (w'.cell? ⟨g13, 0, none⟩ = some (.string ⟨[10].toArray⟩) ∧ w'.cell? ⟨g13, 1, none⟩ = some (.slice A13 nl.length c13)))) (by kernel_rfl) (KS.out _ hbz) (fun hHeld => ?_)
    refine wpAnyH_take (i := 0) (v := ?_) rfl (by kernel_rfl) (by kernel_rfl) (by kernel_rfl) (fun _ _ _ h => h) (Or.inl ⟨by rfl, ?_⟩) (by assumption) ?_
    rotate_left
    · (intro w hSw; obtain ⟨⟨q0, q1⟩, ⟨q2, q3⟩⟩ := hSw; go_simp; (try with_reducible rfl))
    (try simp only [List.getElem_toArray, List.getElem_cons_zero, Act.put, List.setIfInBounds_toArray, List.set_cons_zero, List.set_cons_succ])
    refine wpAnyH_take (i := 1) (v := ?_) rfl (by kernel_rfl) (by kernel_rfl) (by kernel_rfl) (fun _ _ _ h => h) (Or.inl ⟨by rfl, ?_⟩) (by assumption) ?_
    rotate_left
    · (intro w hSw; obtain ⟨⟨q0, q1⟩, ⟨q2, q3⟩⟩ := hSw; go_simp; (try with_reducible rfl))
    (try simp only [List.getElem_toArray, List.getElem_cons_zero, List.getElem_cons_succ, Act.put, List.setIfInBounds_toArray, List.set_cons_zero, List.set_cons_succ])
    refine wpAnyH_ready (rs := [2, 3]) (by kernel_rfl) (by simp) ?_
    refine AllReadyH.cons rfl (fun K hK => ?_) (AllReadyH.cons rfl (fun K hK => ?_) AllReadyH.nil)
    case' refine_1 =>
      go_simp
      have hb1 : Below wb.heap.size wb (wb.alloc (.cells #[.string ⟨#[]⟩, .slice none 0 0] 32)).drew := below_drewN (hb0.alloc (Nat.le_refl _) _) 1
      refine hK.out _ _ (KS.out _ hb1) (fun hHeld => ?_)
      clear hK K
      (try simp only [List.getElem_toArray, List.getElem_cons_zero, List.getElem_cons_succ, Act.put, List.setIfInBounds_toArray, List.set_cons_zero, List.set_cons_succ])
      refine wpAnyH_ready (rs := [3]) (by kernel_rfl) (by simp) ?_
      refine AllReadyH.cons rfl (fun K hK => ?_) AllReadyH.nil
      go_simp
      have hb2 : Below wb.heap.size wb ((wb.alloc (.cells #[.string ⟨#[]⟩, .slice none 0 0] 32)).alloc (.cells #[.string ⟨#[]⟩, .slice none 0 0] 32)).drew := below_drewN ((hb0.alloc (Nat.le_refl _) _).alloc (hb0.alloc (Nat.le_refl _) _).size _) 1
      refine hK.out _ _ (KS.out _ hb2) (fun hHeld => ?_)
      clear hK K
      (try simp only [List.getElem_toArray, List.getElem_cons_zero, List.getElem_cons_succ, Act.put, List.setIfInBounds_toArray, List.set_cons_zero, List.set_cons_succ])
      have h4 : (wb.alloc (.cells #[.string ⟨#[]⟩, .slice none 0 0] 32)).heap.size = wb.heap.size + 1 := by simp
      have B15 : Hid (Blk (((wb.alloc (.cells #[.string ⟨#[]⟩, .slice none 0 0] 32)).alloc (.cells #[.string ⟨#[]⟩, .slice none 0 0] 32)).drew) wb.heap.size 32 #[.string ⟨[].toArray⟩, .slice none ([] : List RunP).length 0]) := (Blk.new wb _ _).below (below_drewN ((Below.refl _ _).alloc (Nat.le_refl _) _) 1) (Blk.new wb _ _).lt
      have B16 : Hid (Blk (((wb.alloc (.cells #[.string ⟨#[]⟩, .slice none 0 0] 32)).alloc (.cells #[.string ⟨#[]⟩, .slice none 0 0] 32)).drew) (wb.heap.size + 1) 32 #[.string ⟨[].toArray⟩, .slice none ([] : List RunP).length 0]) := by
        have q0 := Blk.new (wb.alloc (.cells #[.string ⟨#[]⟩, .slice none 0 0] 32)) 32 #[.string ⟨#[]⟩, .slice none 0 0]
        have q : Blk (((wb.alloc (.cells #[.string ⟨#[]⟩, .slice none 0 0] 32)).alloc (.cells #[.string ⟨#[]⟩, .slice none 0 0] 32)).drew) (wb.alloc (.cells #[.string ⟨#[]⟩, .slice none 0 0] 32)).heap.size 32 #[.string ⟨#[]⟩, .slice none 0 0] := q0.below (below_drewN (Below.refl _ _) 1) q0.lt
        rwa [h4] at q
      have NN : Hid (w.heap.size + 1 + 1 < wb.heap.size ∧ w.heap.size + 1 + 1 < (wb.heap.size + 1) ∧ g13 < wb.heap.size ∧ g13 < (wb.heap.size + 1) ∧ wb.heap.size ≠ (wb.heap.size + 1) ∧ w.heap.size + 1 + 1 < g13) := by
        have h1 := K4.out.res.lt
        have h2 := E13.out.lt
        have h5 := N13.out
        exact ⟨by omega, by omega, by omega, by omega, by omega, by omega⟩
      have K7 := Lib.hid (K4.out.step hb2)
      have TE7 := Lib.hid (grow_txu TE.out _ hb2)
      have E7 := Lib.hid (E13.out.below hb2 E13.out.lt)
      clear hb1 hb2
      generalize ((wb.alloc (.cells #[.string ⟨#[]⟩, .slice none 0 0] 32)).alloc (.cells #[.string ⟨#[]⟩, .slice none 0 0] 32)).drew = wr at *
      generalize hg16 : wb.heap.size + 1 = g16 at *
      generalize hg15 : wb.heap.size = g15 at *
      clear hg15 hg16 KS hbz hb0 K4 TE E13 N13 h4
      have HH := trivial
    case' refine_2 =>
      go_simp
      have hb1 : Below wb.heap.size wb (wb.alloc (.cells #[.string ⟨#[]⟩, .slice none 0 0] 32)).drew := below_drewN (hb0.alloc (Nat.le_refl _) _) 1
      refine hK.out _ _ (KS.out _ hb1) (fun hHeld => ?_)
      clear hK K
      (try simp only [List.getElem_toArray, List.getElem_cons_zero, List.getElem_cons_succ, Act.put, List.setIfInBounds_toArray, List.set_cons_zero, List.set_cons_succ])
      refine wpAnyH_ready (rs := [2]) (by kernel_rfl) (by simp) ?_
      refine AllReadyH.cons rfl (fun K hK => ?_) AllReadyH.nil
      go_simp
      have hb2 : Below wb.heap.size wb ((wb.alloc (.cells #[.string ⟨#[]⟩, .slice none 0 0] 32)).alloc (.cells #[.string ⟨#[]⟩, .slice none 0 0] 32)).drew := below_drewN ((hb0.alloc (Nat.le_refl _) _).alloc (hb0.alloc (Nat.le_refl _) _).size _) 1
      refine hK.out _ _ (KS.out _ hb2) (fun hHeld => ?_)
      clear hK K
      (try simp only [List.getElem_toArray, List.getElem_cons_zero, List.getElem_cons_succ, Act.put, List.setIfInBounds_toArray, List.set_cons_zero, List.set_cons_succ])
      have h4 : (wb.alloc (.cells #[.string ⟨#[]⟩, .slice none 0 0] 32)).heap.size = wb.heap.size + 1 := by simp
      have B16 : Hid (Blk (((wb.alloc (.cells #[.string ⟨#[]⟩, .slice none 0 0] 32)).alloc (.cells #[.string ⟨#[]⟩, .slice none 0 0] 32)).drew) wb.heap.size 32 #[.string ⟨[].toArray⟩, .slice none ([] : List RunP).length 0]) := (Blk.new wb _ _).below (below_drewN ((Below.refl _ _).alloc (Nat.le_refl _) _) 1) (Blk.new wb _ _).lt
      have B15 : Hid (Blk (((wb.alloc (.cells #[.string ⟨#[]⟩, .slice none 0 0] 32)).alloc (.cells #[.string ⟨#[]⟩, .slice none 0 0] 32)).drew) (wb.heap.size + 1) 32 #[.string ⟨[].toArray⟩, .slice none ([] : List RunP).length 0]) := by
        have q0 := Blk.new (wb.alloc (.cells #[.string ⟨#[]⟩, .slice none 0 0] 32)) 32 #[.string ⟨#[]⟩, .slice none 0 0]
        have q : Blk (((wb.alloc (.cells #[.string ⟨#[]⟩, .slice none 0 0] 32)).alloc (.cells #[.string ⟨#[]⟩, .slice none 0 0] 32)).drew) (wb.alloc (.cells #[.string ⟨#[]⟩, .slice none 0 0] 32)).heap.size 32 #[.string ⟨#[]⟩, .slice none 0 0] := q0.below (below_drewN (Below.refl _ _) 1) q0.lt
        rwa [h4] at q
      have NN : Hid (w.heap.size + 1 + 1 < (wb.heap.size + 1) ∧ w.heap.size + 1 + 1 < wb.heap.size ∧ g13 < (wb.heap.size + 1) ∧ g13 < wb.heap.size ∧ (wb.heap.size + 1) ≠ wb.heap.size ∧ w.heap.size + 1 + 1 < g13) := by
        have h1 := K4.out.res.lt
        have h2 := E13.out.lt
        have h5 := N13.out
        exact ⟨by omega, by omega, by omega, by omega, by omega, by omega⟩
      have K7 := Lib.hid (K4.out.step hb2)
      have TE7 := Lib.hid (grow_txu TE.out _ hb2)
      have E7 := Lib.hid (E13.out.below hb2 E13.out.lt)
      clear hb1 hb2
      generalize ((wb.alloc (.cells #[.string ⟨#[]⟩, .slice none 0 0] 32)).alloc (.cells #[.string ⟨#[]⟩, .slice none 0 0] 32)).drew = wr at *
      generalize hg15 : wb.heap.size + 1 = g15 at *
      generalize hg16 : wb.heap.size = g16 at *
      clear hg15 hg16 KS hbz hb0 K4 TE E13 N13 h4
      have HH := trivial
    all_goals
      have hn15 : w.heap.size + 1 + 1 < g15 ∧ w.heap.size + 1 + 1 < g16 ∧ g13 < g15 ∧ g13 < g16 ∧ g15 ≠ g16 ∧ w.heap.size + 1 + 1 < g13 := NN.out
      obtain ⟨z0, z1⟩ := txt_cells B15.out
      have z2 := B15.out.frozen 0
      have z3 := B15.out.frozen 1
      clear HH
      refine wpAnyH_ready (rs := [4]) (by kernel_rfl) (by simp) ?_
      refine AllReadyH.cons rfl (fun K hK => ?_) AllReadyH.nil
      go_simp
      refine hK.out _ _ (show _ from ⟨txt_cells (setMany_far K7.out.tx (by omega) [(0, .string ⟨X.toArray⟩), (1, .slice A2 m.length c2)]), txt_cells (setMany_far E7.out (by omega) [(0, .string ⟨X.toArray⟩), (1, .slice A2 m.length c2)])⟩) (fun hHeld => ?_)
      clear hK K
      (try simp only [List.getElem_toArray, List.getElem_cons_zero, List.getElem_cons_succ, Act.put, List.setIfInBounds_toArray, List.set_cons_zero, List.set_cons_succ])
      have K8 : Hid (PbK w ((wr.setCell ⟨g15, 0, none⟩ (.string ⟨X.toArray⟩)).setCell ⟨g15, 1, none⟩ (.slice A2 m.length c2)) A c S l y V A2 c2 X m) := K7.out.far B15.out noLab_txt hn15.1 [(0, .string ⟨X.toArray⟩), (1, .slice A2 m.length c2)]
      have TE8 : Hid (Txu ((wr.setCell ⟨g15, 0, none⟩ (.string ⟨X.toArray⟩)).setCell ⟨g15, 1, none⟩ (.slice A2 m.length c2)) A13 [10] nl) := setMany_txu TE7.out B15.out noLab_txt [(0, .string ⟨X.toArray⟩), (1, .slice A2 m.length c2)]
      have E8 : Hid (Blk ((wr.setCell ⟨g15, 0, none⟩ (.string ⟨X.toArray⟩)).setCell ⟨g15, 1, none⟩ (.slice A2 m.length c2)) g13 32 #[.string ⟨[10].toArray⟩, .slice A13 nl.length c13]) := setMany_far E7.out (by omega) [(0, .string ⟨X.toArray⟩), (1, .slice A2 m.length c2)]
      have C15 : Hid (Blk ((wr.setCell ⟨g15, 0, none⟩ (.string ⟨X.toArray⟩)).setCell ⟨g15, 1, none⟩ (.slice A2 m.length c2)) g15 32 #[.string ⟨X.toArray⟩, .slice A2 m.length c2]) := blk_two B15.out _ _
      have C16 : Hid (Blk ((wr.setCell ⟨g15, 0, none⟩ (.string ⟨X.toArray⟩)).setCell ⟨g15, 1, none⟩ (.slice A2 m.length c2)) g16 32 #[.string ⟨[].toArray⟩, .slice none ([] : List RunP).length 0]) := setMany_far B16.out (by omega) [(0, .string ⟨X.toArray⟩), (1, .slice A2 m.length c2)]
      generalize (wr.setCell ⟨g15, 0, none⟩ (.string ⟨X.toArray⟩)).setCell ⟨g15, 1, none⟩ (.slice A2 m.length c2) = ws at *
      clear K7 TE7 E7 B15 B16 z0 z1 z2 z3
      obtain ⟨z0, z1⟩ := txt_cells C16.out
      have z2 := C16.out.frozen 0
      have z3 := C16.out.frozen 1
      refine wpAnyH_ready (rs := [5]) (by kernel_rfl) (by simp) ?_
      refine AllReadyH.cons rfl (fun K hK => ?_) AllReadyH.nil
      go_simp
      refine hK.out _ _ (show _ from ⟨txt_cells (setMany_far K8.out.tx (by omega) [(0, .string ⟨[10].toArray⟩), (1, .slice A13 nl.length c13)]), txt_cells (setMany_far E8.out (by omega) [(0, .string ⟨[10].toArray⟩), (1, .slice A13 nl.length c13)])⟩) (fun hHeld => ?_)
      clear hK K
      (try simp only [List.getElem_toArray, List.getElem_cons_zero, List.getElem_cons_succ, Act.put, List.setIfInBounds_toArray, List.set_cons_zero, List.set_cons_succ])
      replace C15 : Hid (Blk ((ws.setCell ⟨g16, 0, none⟩ (.string ⟨[10].toArray⟩)).setCell ⟨g16, 1, none⟩ (.slice A13 nl.length c13)) g15 32 #[.string ⟨X.toArray⟩, .slice A2 m.length c2]) := setMany_far C15.out (by omega) [(0, .string ⟨[10].toArray⟩), (1, .slice A13 nl.length c13)]
      have D16 : Hid (Blk ((ws.setCell ⟨g16, 0, none⟩ (.string ⟨[10].toArray⟩)).setCell ⟨g16, 1, none⟩ (.slice A13 nl.length c13)) g16 32 #[.string ⟨[10].toArray⟩, .slice A13 nl.length c13]) := blk_two C16.out _ _
      replace K8 : Hid (PbK w ((ws.setCell ⟨g16, 0, none⟩ (.string ⟨[10].toArray⟩)).setCell ⟨g16, 1, none⟩ (.slice A13 nl.length c13)) A c S l y V A2 c2 X m) := K8.out.far C16.out noLab_txt hn15.2.1 [(0, .string ⟨[10].toArray⟩), (1, .slice A13 nl.length c13)]
      replace TE8 : Hid (Txu ((ws.setCell ⟨g16, 0, none⟩ (.string ⟨[10].toArray⟩)).setCell ⟨g16, 1, none⟩ (.slice A13 nl.length c13)) A13 [10] nl) := setMany_txu TE8.out C16.out noLab_txt [(0, .string ⟨[10].toArray⟩), (1, .slice A13 nl.length c13)]
      replace E8 : Hid (Blk ((ws.setCell ⟨g16, 0, none⟩ (.string ⟨[10].toArray⟩)).setCell ⟨g16, 1, none⟩ (.slice A13 nl.length c13)) g13 32 #[.string ⟨[10].toArray⟩, .slice A13 nl.length c13]) := setMany_far E8.out (by omega) [(0, .string ⟨[10].toArray⟩), (1, .slice A13 nl.length c13)]
      generalize (ws.setCell ⟨g16, 0, none⟩ (.string ⟨[10].toArray⟩)).setCell ⟨g16, 1, none⟩ (.slice A13 nl.length c13) = wv at *
      clear C16 z0 z1 z2 z3
      have C16 := D16
      clear D16
      refine wpAnyH_done (by kernel_rfl) ?_ _
      obtain ⟨⟨v0, v1, v2, v3⟩, _⟩ := si_cells K8.out.si
      rcases HDD.out with hd | hd
      · have HBX := HBO
        rw [HB1.out hd] at HBX
        have HPX := Lib.hid (HPR.out.1 hd).symm
        clear HB1 HB2 HDD HPR
        go_upto_region 11 with (go_at_call 64; refine (HBX.out _).mono ?_; rintro e w2 ⟨rfl, bb⟩; replace K8 := Lib.hid (K8.out.step bb); replace TE8 := Lib.hid (grow_txu TE8.out _ bb); replace E8 := Lib.hid (E8.out.below bb E8.out.lt); have B15 := Lib.hid (C15.out.below bb C15.out.lt); have B16 := Lib.hid (C16.out.below bb C16.out.lt); clear bb C15 C16 v0 v1 v2 v3)
        obtain ⟨x0, x1⟩ := txt_cells B15.out
        obtain ⟨u0, u1⟩ := txt_cells B16.out
        obtain ⟨y0, y1⟩ := txt_cells K8.out.tx
        go_upto_region 12 with (go_at_call 38; refine (stpCat_any A2 A13 c2 c13 _ _ X [10] m nl _ (Nat.le_refl _) (Nat.le_refl _) K8.out.tX TE8.out).mono ?_; rw [HPX.out]; rintro e wc ⟨A9, c9, rfl, own, bb⟩; dsimp only at own ⊢; have K9 := Lib.hid (K8.out.step bb); have X9 : Hid (Txu wc A9 C cl) := OKP.out.txt (Row.of_own own); clear own bb x0 x1 u0 u1 y0 y1; obtain ⟨y0, y1⟩ := txt_cells K9.out.tx; have y2 := K9.out.tx.frozen 0; have y3 := K9.out.tx.frozen 1)
        have KA := Lib.hid (K9.out.put (c3 := c9) X9.out)
        generalize (wc.setCell ⟨w.heap.size + 1, 0, none⟩ (.string ⟨C.toArray⟩)).setCell ⟨w.heap.size + 1, 1, none⟩ (.slice A9 cl.length c9) = wa at *
        clear y0 y1 y2 y3 K9 X9 K8 B15 B16 TE8 E8
        by_cases hcn : cn = 0
        · subst hcn
          have HV1 := Lib.hid ((if_pos rfl).symm.trans HV.out)
          have HTI2 := Lib.hid (HTI.out rfl)
          have OKT2 := Lib.hid (OKT.out rfl)
          have HKL2 := Lib.hid (HKL.out rfl)
          clear HTI OKT HKL HV
          obtain ⟨y0, y1⟩ := txt_cells KA.out.tx
          go_upto_region 15 with (go_at_call 133; refine (HTI2.out _ _ _ KA.out.tX).mono ?_; rintro e wt ⟨A3, c3, rfl, r3, bb⟩; dsimp only at r3 ⊢; have KB := Lib.hid (KA.out.step bb); have XB : Hid (Txu wt A3 Y k) := OKT2.out.txt r3; clear r3 bb y0 y1; obtain ⟨y0, y1⟩ := txt_cells KB.out.tx; have y2 := KB.out.tx.frozen 0; have y3 := KB.out.tx.frozen 1)
          have KC := Lib.hid (KB.out.put (c3 := c3) XB.out)
          generalize (wt.setCell ⟨w.heap.size + 1, 0, none⟩ (.string ⟨Y.toArray⟩)).setCell ⟨w.heap.size + 1, 1, none⟩ (.slice A3 k.length c3) = wd at *
          clear y0 y1 y2 y3 KA KB XB HTI2
          by_cases htn : tn = 0
          · subst htn
            have HV2 := Lib.hid ((if_pos rfl).symm.trans HV1.out)
            clear HV1
            obtain ⟨⟨y0, y1, y2, y3⟩, _⟩ := si_cells KC.out.si
            obtain ⟨x0, x1⟩ := txt_cells KC.out.tx
            go_upto_region 18 with (go_at_call 69; refine (oxRepl_any A A3 c c3 S l y hy V _ _ Y k HKL2.out _ KC.out.tS KC.out.tX).mono ?_; rw [HTM.out]; rintro ee w6 ⟨A4, c4, B4, d4, rfl, rA, rB, bb⟩; dsimp only at rA rB ⊢; have KD := Lib.hid ((KC.out.step bb).step ((Below.refl _ _).alloc (Nat.le_refl _) (.cells #[.int .i64 ea, .string ⟨ES.toArray⟩, .slice A4 el.length c4, .string ⟨EX.toArray⟩, .slice B4 em.length d4] 41))); have RA := Lib.hid (row_step rA ((Below.refl _ _).alloc (Nat.le_refl _) (.cells #[.int .i64 ea, .string ⟨ES.toArray⟩, .slice A4 el.length c4, .string ⟨EX.toArray⟩, .slice B4 em.length d4] 41))); have RB := Lib.hid (row_step rB ((Below.refl _ _).alloc (Nat.le_refl _) (.cells #[.int .i64 ea, .string ⟨ES.toArray⟩, .slice A4 el.length c4, .string ⟨EX.toArray⟩, .slice B4 em.length d4] 41))); have VE := Lib.hid (Blk.new w6 41 #[.int .i64 ea, .string ⟨ES.toArray⟩, .slice A4 el.length c4, .string ⟨EX.toArray⟩, .slice B4 em.length d4]); have NE : Hid (w.heap.size + 1 + 1 < w6.heap.size) := (KC.out.step bb).res.lt; clear rA rB bb y0 y1 y2 y3 x0 x1)
            generalize hg19 : w6.heap.size = g19 at *
            generalize w6.alloc (.cells #[.int .i64 ea, .string ⟨ES.toArray⟩, .slice A4 el.length c4, .string ⟨EX.toArray⟩, .slice B4 em.length d4] 41) = we at *
            have KE := KD
            clear hg19 KC KD
            by_cases hen : en = 0
            · subst hen
              have HV4 := Lib.hid ((if_pos rfl).symm.trans HV2.out)
              go_upto_region 20 with fail
              have hb0 : Below we.heap.size we we := Below.refl _ _
              have hbz : Below we.heap.size we we.drew := below_drewN hb0 1
              have KS : Hid (∀ w', Below we.heap.size we w' → (w'.cell? ⟨g19, 0, none⟩ = some (.int .i64 ea) ∧ w'.cell? ⟨g19, 1, none⟩ = some (.string ⟨ES.toArray⟩) ∧ w'.cell? ⟨g19, 2, none⟩ = some (.slice A4 el.length c4) ∧ w'.cell? ⟨g19, 3, none⟩ = some (.string ⟨EX.toArray⟩) ∧ w'.cell? ⟨g19, 4, none⟩ = some (.slice B4 em.length d4))) := fun w' hb => ed_cells (VE.out.below hb VE.out.lt)
              refine wp_region_held_drew (S := fun w' => (w'.cell? ⟨g19, 0, none⟩ = some (.int .i64 ea) ∧ w'.cell? ⟨g19, 1, none⟩ = some (.string ⟨ES.toArray⟩) ∧ w'.cell? ⟨g19, 2, none⟩ = some (.slice A4 el.length c4) ∧ w'.cell? ⟨g19, 3, none⟩ = some (.string ⟨EX.toArray⟩) ∧ w'.cell? ⟨g19, 4, none⟩ = some (.slice B4 em.length d4))) (by kernel_rfl) (KS.out _ hbz) (fun hHeld => ?_)
              refine wpAnyH_take (i := 0) (v := ?_) rfl (by kernel_rfl) (by kernel_rfl) (by kernel_rfl) (fun _ _ _ h => h) (Or.inl ⟨by rfl, ?_⟩) (by assumption) ?_
              rotate_left
              · (intro w hSw; obtain ⟨q0, q1, q2, q3, q4⟩ := hSw; go_simp; (try with_reducible rfl))
              (try simp only [List.getElem_toArray, List.getElem_cons_zero, Act.put, List.setIfInBounds_toArray, List.set_cons_zero, List.set_cons_succ])
              refine wpAnyH_take (i := 1) (v := ?_) rfl (by kernel_rfl) (by kernel_rfl) (by kernel_rfl) (fun _ _ _ h => h) (Or.inl ⟨by rfl, ?_⟩) (by assumption) ?_
              rotate_left
              · (intro w hSw; obtain ⟨q0, q1, q2, q3, q4⟩ := hSw; go_simp; (try with_reducible rfl))
              (try simp only [List.getElem_toArray, List.getElem_cons_zero, List.getElem_cons_succ, Act.put, List.setIfInBounds_toArray, List.set_cons_zero, List.set_cons_succ])
              refine wpAnyH_take (i := 2) (v := ?_) rfl (by kernel_rfl) (by kernel_rfl) (by kernel_rfl) (fun _ _ _ h => h) (Or.inl ⟨by rfl, ?_⟩) (by assumption) ?_
              rotate_left
              · (intro w hSw; obtain ⟨q0, q1, q2, q3, q4⟩ := hSw; go_simp; (try with_reducible rfl))
              (try simp only [List.getElem_toArray, List.getElem_cons_zero, List.getElem_cons_succ, Act.put, List.setIfInBounds_toArray, List.set_cons_zero, List.set_cons_succ])
              refine wpAnyH_ready (rs := [3]) (by kernel_rfl) (by simp) ?_
              refine AllReadyH.cons rfl (fun K hK => ?_) AllReadyH.nil
              go_simp
              refine (HFI.out _).mono ?_
              rintro ee wz ⟨rfl, hby⟩
              have hbx : Below we.heap.size we wz := hbz.trans (hby.mono hbz.size)
              (try go_wp2_with fail)
              refine hK.out _ _ (KS.out _ hbx) (fun hHeld => ?_)
              clear hK K
              (try simp only [List.getElem_toArray, List.getElem_cons_zero, List.getElem_cons_succ, Act.put, List.setIfInBounds_toArray, List.set_cons_zero, List.set_cons_succ])
              refine wpAnyH_take (i := 4) (v := ?_) rfl (by kernel_rfl) (by kernel_rfl) (by kernel_rfl) (fun _ _ _ h => h) (Or.inl ⟨by rfl, ?_⟩) (by assumption) ?_
              rotate_left
              · (intro w hSw; obtain ⟨q0, q1, q2, q3, q4⟩ := hSw; go_simp; (try with_reducible rfl))
              (try simp only [List.getElem_toArray, List.getElem_cons_zero, List.getElem_cons_succ, Act.put, List.setIfInBounds_toArray, List.set_cons_zero, List.set_cons_succ])
              have KZ := Lib.hid (KE.out.step hbx)
              have RAZ := Lib.hid (row_step RA.out hbx)
              have RBZ := Lib.hid (row_step RB.out hbx)
              obtain ⟨⟨r0, r1, r2, r3, r4, r5, r6, r7, r8, r9⟩, t0, t1, t2, t3, t4, t5, t6, t7, t8, t9⟩ := out_cells KZ.out.res
              refine wpAnyH_ready (rs := [5]) (by kernel_rfl) (by simp) ?_
              refine AllReadyH.cons rfl (fun K hK => ?_) AllReadyH.nil
              go_simp
              refine hK.out _ _ (show _ from ed_cells (setMany_far (VE.out.below hbx VE.out.lt) (Nat.ne_of_gt NE.out) [(0, .int .i64 ea), (1, .string ⟨ES.toArray⟩), (2, .slice A4 el.length c4), (3, .string ⟨EX.toArray⟩), (4, .slice B4 em.length d4), (5, .string ⟨#[]⟩), (6, .slice none 0 0), (7, .bool false), (8, .bool false), (9, .int .i64 ((fi : Nat)))])) (fun hHeld => ?_)
              clear hK K
              (try simp only [List.getElem_toArray, List.getElem_cons_zero, List.getElem_cons_succ, Act.put, List.setIfInBounds_toArray, List.set_cons_zero, List.set_cons_succ])
              refine wpAnyH_take (i := 6) (v := ?_) rfl (by kernel_rfl) (by kernel_rfl) (by kernel_rfl) (fun _ _ _ h => h) (Or.inl ⟨by rfl, ?_⟩) (by assumption) ?_
              rotate_left
              · (intro w hSw; obtain ⟨q0, q1, q2, q3, q4⟩ := hSw; go_simp; (try with_reducible rfl))
              (try simp only [List.getElem_toArray, List.getElem_cons_zero, List.getElem_cons_succ, Act.put, List.setIfInBounds_toArray, List.set_cons_zero, List.set_cons_succ])
              refine wpAnyH_done (by kernel_rfl) ?_ _
              go_wp2_with fail
              exact end_out (A := A4) (B := B4) (C := none) (c := c4) (d := d4) (k := 0) (R := []) (l := el) (m := em) (q := []) rfl _ KZ.out.res noLab_out KZ.out.bel (by omega) RAZ.out RBZ.out (.inl rfl) rfl rfl rfl HV4.out (fun _ _ h => h)
            · have HV3 := Lib.hid ((if_neg hen).symm.trans HV2.out)
              have hn2 : ((en : Int) != 0) = true := by rw [bne_iff_ne]; omega
              obtain ⟨⟨r0, r1, r2, r3, r4, r5, r6, r7, r8, r9⟩, t0, t1, t2, t3, t4, t5, t6, t7, t8, t9⟩ := out_cells KE.out.res
              go_wp2_with fail
              exact end_zero rfl _ KE.out.res noLab_out KE.out.bel (by omega) rfl rfl rfl HV3.out (fun _ _ h => h)
          · have HV2 := Lib.hid ((if_neg htn).symm.trans HV1.out)
            have hn2 : ((tn : Int) != 0) = true := by rw [bne_iff_ne]; omega
            obtain ⟨⟨r0, r1, r2, r3, r4, r5, r6, r7, r8, r9⟩, t0, t1, t2, t3, t4, t5, t6, t7, t8, t9⟩ := out_cells KC.out.res
            go_wp2_with fail
            exact end_zero rfl _ KC.out.res noLab_out KC.out.bel (by omega) rfl rfl rfl HV2.out (fun _ _ h => h)
        · have HV1 := Lib.hid ((if_neg hcn).symm.trans HV.out)
          have hn2 : ((cn : Int) != 0) = true := by rw [bne_iff_ne]; omega
          obtain ⟨⟨r0, r1, r2, r3, r4, r5, r6, r7, r8, r9⟩, t0, t1, t2, t3, t4, t5, t6, t7, t8, t9⟩ := out_cells KA.out.res
          go_wp2_with fail
          exact end_zero rfl _ KA.out.res noLab_out KA.out.bel (by omega) rfl rfl rfl HV1.out (fun _ _ h => h)
      · have HBX := HBO
        obtain ⟨hb9, hPV⟩ := HB2.out hd
        rw [hb9] at HBX
        subst hPV
        have HPX := Lib.hid (HPR.out.2 hd).symm
        clear HB1 HB2 HDD HPR hb9
        go_upto_region 10 with (go_at_call 64; refine (HBX.out _).mono ?_; rintro e wq ⟨rfl, bb⟩; replace K8 := Lib.hid (K8.out.step bb); replace TE8 := Lib.hid (grow_txu TE8.out _ bb); replace E8 := Lib.hid (E8.out.below bb E8.out.lt); replace C15 := Lib.hid (C15.out.below bb C15.out.lt); replace C16 := Lib.hid (C16.out.below bb C16.out.lt); clear bb v0 v1 v2 v3)
        have hbq : Below wq.heap.size wq wq.drew := below_drewN (Below.refl _ _) 1
        replace K8 := Lib.hid (K8.out.step hbq)
        replace TE8 := Lib.hid (grow_txu TE8.out _ hbq)
        replace E8 := Lib.hid (E8.out.below hbq E8.out.lt)
        replace C15 := Lib.hid (C15.out.below hbq C15.out.lt)
        replace C16 := Lib.hid (C16.out.below hbq C16.out.lt)
        clear hbq hHeld
        refine wp_region_held_drew (S := fun w' => (w'.cell? ⟨w.heap.size, 3, none⟩ = some (.string ⟨V.toArray⟩) ∧ ((w'.cell? ⟨w.heap.size + 1, 0, none⟩ = some (.string ⟨X.toArray⟩) ∧ w'.cell? ⟨w.heap.size + 1, 1, none⟩ = some (.slice A2 m.length c2)) ∧ (w'.cell? ⟨g13, 0, none⟩ = some (.string ⟨[10].toArray⟩) ∧ w'.cell? ⟨g13, 1, none⟩ = some (.slice A13 nl.length c13))))) (by kernel_rfl) (show _ from ⟨(si_cells K8.out.si).1.2.2.2, txt_cells K8.out.tx, txt_cells E8.out⟩) (fun hHeld => ?_)
        refine wpAnyH_take (i := 0) (v := ?_) rfl (by kernel_rfl) (by kernel_rfl) (by kernel_rfl) (fun _ _ _ h => h) (Or.inl ⟨by rfl, ?_⟩) (by assumption) ?_
        rotate_left
        · (intro w hSw; obtain ⟨q9, ⟨q0, q1⟩, ⟨q2, q3⟩⟩ := hSw; go_simp; (try with_reducible rfl))
        (try simp only [List.getElem_toArray, List.getElem_cons_zero, Act.put, List.setIfInBounds_toArray, List.set_cons_zero, List.set_cons_succ])
        refine wpAnyH_take (i := 1) (v := ?_) rfl (by kernel_rfl) (by kernel_rfl) (by kernel_rfl) (fun _ _ _ h => h) (Or.inl ⟨by rfl, ?_⟩) (by assumption) ?_
        rotate_left
        · (intro w hSw; obtain ⟨q9, ⟨q0, q1⟩, ⟨q2, q3⟩⟩ := hSw; go_simp; (try with_reducible rfl))
        (try simp only [List.getElem_toArray, List.getElem_cons_zero, List.getElem_cons_succ, Act.put, List.setIfInBounds_toArray, List.set_cons_zero, List.set_cons_succ])
        refine wpAnyH_take (i := 2) (v := ?_) rfl (by kernel_rfl) (by kernel_rfl) (by kernel_rfl) (fun _ _ _ h => h) (Or.inl ⟨by rfl, ?_⟩) (by assumption) ?_
        rotate_left
        · (intro w hSw; obtain ⟨q9, ⟨q0, q1⟩, ⟨q2, q3⟩⟩ := hSw; go_simp; (try with_reducible rfl))
        (try simp only [List.getElem_toArray, List.getElem_cons_zero, List.getElem_cons_succ, Act.put, List.setIfInBounds_toArray, List.set_cons_zero, List.set_cons_succ])
        refine wpAnyH_take (i := 3) (v := ?_) rfl (by kernel_rfl) (by kernel_rfl) (by kernel_rfl) (fun _ _ _ h => h) (Or.inl ⟨by rfl, ?_⟩) (by assumption) ?_
        rotate_left
        · (intro w hSw; obtain ⟨q9, ⟨q0, q1⟩, ⟨q2, q3⟩⟩ := hSw; go_simp; (try with_reducible rfl))
        (try simp only [List.getElem_toArray, List.getElem_cons_zero, List.getElem_cons_succ, Act.put, List.setIfInBounds_toArray, List.set_cons_zero, List.set_cons_succ])
        refine wpAnyH_take (i := 4) (v := ?_) rfl (by kernel_rfl) (by kernel_rfl) (by kernel_rfl) (fun _ _ _ h => h) (Or.inl ⟨by rfl, ?_⟩) (by assumption) ?_
        rotate_left
        · (intro w hSw; obtain ⟨q9, ⟨q0, q1⟩, ⟨q2, q3⟩⟩ := hSw; go_simp; (try with_reducible rfl))
        (try simp only [List.getElem_toArray, List.getElem_cons_zero, List.getElem_cons_succ, Act.put, List.setIfInBounds_toArray, List.set_cons_zero, List.set_cons_succ])
        refine wpAnyH_take (i := 5) (v := ?_) rfl (by kernel_rfl) (by kernel_rfl) (by kernel_rfl) (fun _ _ _ h => h) (Or.inl ⟨by rfl, ?_⟩) (by assumption) ?_
        rotate_left
        · (intro w hSw; obtain ⟨q9, ⟨q0, q1⟩, ⟨q2, q3⟩⟩ := hSw; go_simp; (try with_reducible rfl))
        (try simp only [List.getElem_toArray, List.getElem_cons_zero, List.getElem_cons_succ, Act.put, List.setIfInBounds_toArray, List.set_cons_zero, List.set_cons_succ])
        generalize wq.drew = wr at *
        obtain ⟨z0, z1⟩ := txt_cells C15.out
        have z2 := C15.out.frozen 0
        have z3 := C15.out.frozen 1
        refine wpAnyH_ready (rs := [6]) (by kernel_rfl) (by simp) ?_
        refine AllReadyH.cons rfl (fun K hK => ?_) AllReadyH.nil
        go_simp
        refine hK.out _ _ (show _ from ⟨(si_cells (setMany_far K8.out.si (by omega) [(0, .string ⟨[10].toArray⟩), (1, .slice A13 nl.length c13)])).1.2.2.2, txt_cells (setMany_far K8.out.tx (by omega) [(0, .string ⟨[10].toArray⟩), (1, .slice A13 nl.length c13)]), txt_cells (setMany_far E8.out (by omega) [(0, .string ⟨[10].toArray⟩), (1, .slice A13 nl.length c13)])⟩) (fun hHeld => ?_)
        clear hK K
        (try simp only [List.getElem_toArray, List.getElem_cons_zero, List.getElem_cons_succ, Act.put, List.setIfInBounds_toArray, List.set_cons_zero, List.set_cons_succ])
        have D15 : Hid (Blk ((wr.setCell ⟨g15, 0, none⟩ (.string ⟨[10].toArray⟩)).setCell ⟨g15, 1, none⟩ (.slice A13 nl.length c13)) g15 32 #[.string ⟨[10].toArray⟩, .slice A13 nl.length c13]) := blk_two C15.out _ _
        replace C16 : Hid (Blk ((wr.setCell ⟨g15, 0, none⟩ (.string ⟨[10].toArray⟩)).setCell ⟨g15, 1, none⟩ (.slice A13 nl.length c13)) g16 32 #[.string ⟨[10].toArray⟩, .slice A13 nl.length c13]) := setMany_far C16.out (by omega) [(0, .string ⟨[10].toArray⟩), (1, .slice A13 nl.length c13)]
        replace K8 : Hid (PbK w ((wr.setCell ⟨g15, 0, none⟩ (.string ⟨[10].toArray⟩)).setCell ⟨g15, 1, none⟩ (.slice A13 nl.length c13)) A c S l y V A2 c2 X m) := K8.out.far C15.out noLab_txt hn15.1 [(0, .string ⟨[10].toArray⟩), (1, .slice A13 nl.length c13)]
        replace TE8 : Hid (Txu ((wr.setCell ⟨g15, 0, none⟩ (.string ⟨[10].toArray⟩)).setCell ⟨g15, 1, none⟩ (.slice A13 nl.length c13)) A13 [10] nl) := setMany_txu TE8.out C15.out noLab_txt [(0, .string ⟨[10].toArray⟩), (1, .slice A13 nl.length c13)]
        replace E8 : Hid (Blk ((wr.setCell ⟨g15, 0, none⟩ (.string ⟨[10].toArray⟩)).setCell ⟨g15, 1, none⟩ (.slice A13 nl.length c13)) g13 32 #[.string ⟨[10].toArray⟩, .slice A13 nl.length c13]) := setMany_far E8.out (by omega) [(0, .string ⟨[10].toArray⟩), (1, .slice A13 nl.length c13)]
        generalize (wr.setCell ⟨g15, 0, none⟩ (.string ⟨[10].toArray⟩)).setCell ⟨g15, 1, none⟩ (.slice A13 nl.length c13) = ws at *
        clear C15 z0 z1 z2 z3
        obtain ⟨z0, z1⟩ := txt_cells C16.out
        have z2 := C16.out.frozen 0
        have z3 := C16.out.frozen 1
        refine wpAnyH_ready (rs := [7]) (by kernel_rfl) (by simp) ?_
        refine AllReadyH.cons rfl (fun K hK => ?_) AllReadyH.nil
        go_simp
        refine hK.out _ _ (show _ from ⟨(si_cells (setMany_far K8.out.si (by omega) [(0, .string ⟨X.toArray⟩), (1, .slice A2 m.length c2)])).1.2.2.2, txt_cells (setMany_far K8.out.tx (by omega) [(0, .string ⟨X.toArray⟩), (1, .slice A2 m.length c2)]), txt_cells (setMany_far E8.out (by omega) [(0, .string ⟨X.toArray⟩), (1, .slice A2 m.length c2)])⟩) (fun hHeld => ?_)
        clear hK K
        (try simp only [List.getElem_toArray, List.getElem_cons_zero, List.getElem_cons_succ, Act.put, List.setIfInBounds_toArray, List.set_cons_zero, List.set_cons_succ])
        have B16 : Hid (Blk ((ws.setCell ⟨g16, 0, none⟩ (.string ⟨X.toArray⟩)).setCell ⟨g16, 1, none⟩ (.slice A2 m.length c2)) g16 32 #[.string ⟨X.toArray⟩, .slice A2 m.length c2]) := blk_two C16.out _ _
        have B15 : Hid (Blk ((ws.setCell ⟨g16, 0, none⟩ (.string ⟨X.toArray⟩)).setCell ⟨g16, 1, none⟩ (.slice A2 m.length c2)) g15 32 #[.string ⟨[10].toArray⟩, .slice A13 nl.length c13]) := setMany_far D15.out (by omega) [(0, .string ⟨X.toArray⟩), (1, .slice A2 m.length c2)]
        replace K8 : Hid (PbK w ((ws.setCell ⟨g16, 0, none⟩ (.string ⟨X.toArray⟩)).setCell ⟨g16, 1, none⟩ (.slice A2 m.length c2)) A c S l y V A2 c2 X m) := K8.out.far C16.out noLab_txt hn15.2.1 [(0, .string ⟨X.toArray⟩), (1, .slice A2 m.length c2)]
        replace TE8 : Hid (Txu ((ws.setCell ⟨g16, 0, none⟩ (.string ⟨X.toArray⟩)).setCell ⟨g16, 1, none⟩ (.slice A2 m.length c2)) A13 [10] nl) := setMany_txu TE8.out C16.out noLab_txt [(0, .string ⟨X.toArray⟩), (1, .slice A2 m.length c2)]
        replace E8 : Hid (Blk ((ws.setCell ⟨g16, 0, none⟩ (.string ⟨X.toArray⟩)).setCell ⟨g16, 1, none⟩ (.slice A2 m.length c2)) g13 32 #[.string ⟨[10].toArray⟩, .slice A13 nl.length c13]) := setMany_far E8.out (by omega) [(0, .string ⟨X.toArray⟩), (1, .slice A2 m.length c2)]
        generalize (ws.setCell ⟨g16, 0, none⟩ (.string ⟨X.toArray⟩)).setCell ⟨g16, 1, none⟩ (.slice A2 m.length c2) = wu at *
        clear C16 D15 z0 z1 z2 z3
        refine wpAnyH_done (by kernel_rfl) ?_ _
        obtain ⟨x0, x1⟩ := txt_cells B15.out
        obtain ⟨u0, u1⟩ := txt_cells B16.out
        obtain ⟨y0, y1⟩ := txt_cells K8.out.tx
        go_upto_region 12 with (go_at_call 38; refine (stpCat_any A13 A2 c13 c2 _ _ [10] X nl m _ (Nat.le_refl _) (Nat.le_refl _) TE8.out K8.out.tX).mono ?_; rw [HPX.out]; rintro e wc ⟨A9, c9, rfl, own, bb⟩; dsimp only at own ⊢; have K9 := Lib.hid (K8.out.step bb); have X9 : Hid (Txu wc A9 C cl) := OKP.out.txt (Row.of_own own); clear own bb x0 x1 u0 u1 y0 y1; obtain ⟨y0, y1⟩ := txt_cells K9.out.tx; have y2 := K9.out.tx.frozen 0; have y3 := K9.out.tx.frozen 1)
        have KA := Lib.hid (K9.out.put (c3 := c9) X9.out)
        generalize (wc.setCell ⟨w.heap.size + 1, 0, none⟩ (.string ⟨C.toArray⟩)).setCell ⟨w.heap.size + 1, 1, none⟩ (.slice A9 cl.length c9) = wa at *
        clear y0 y1 y2 y3 K9 X9 K8 B15 B16 TE8 E8
        by_cases hcn : cn = 0
        · subst hcn
          have HV1 := Lib.hid ((if_pos rfl).symm.trans HV.out)
          have HTI2 := Lib.hid (HTI.out rfl)
          have OKT2 := Lib.hid (OKT.out rfl)
          have HKL2 := Lib.hid (HKL.out rfl)
          clear HTI OKT HKL HV
          obtain ⟨y0, y1⟩ := txt_cells KA.out.tx
          go_upto_region 15 with (go_at_call 133; refine (HTI2.out _ _ _ KA.out.tX).mono ?_; rintro e wt ⟨A3, c3, rfl, r3, bb⟩; dsimp only at r3 ⊢; have KB := Lib.hid (KA.out.step bb); have XB : Hid (Txu wt A3 Y k) := OKT2.out.txt r3; clear r3 bb y0 y1; obtain ⟨y0, y1⟩ := txt_cells KB.out.tx; have y2 := KB.out.tx.frozen 0; have y3 := KB.out.tx.frozen 1)
          have KC := Lib.hid (KB.out.put (c3 := c3) XB.out)
          generalize (wt.setCell ⟨w.heap.size + 1, 0, none⟩ (.string ⟨Y.toArray⟩)).setCell ⟨w.heap.size + 1, 1, none⟩ (.slice A3 k.length c3) = wd at *
          clear y0 y1 y2 y3 KA KB XB HTI2
          by_cases htn : tn = 0
          · subst htn
            have HV2 := Lib.hid ((if_pos rfl).symm.trans HV1.out)
            clear HV1
            obtain ⟨⟨y0, y1, y2, y3⟩, _⟩ := si_cells KC.out.si
            obtain ⟨x0, x1⟩ := txt_cells KC.out.tx
            go_upto_region 18 with (go_at_call 69; refine (oxRepl_any A A3 c c3 S l y hy V _ _ Y k HKL2.out _ KC.out.tS KC.out.tX).mono ?_; rw [HTM.out]; rintro ee w6 ⟨A4, c4, B4, d4, rfl, rA, rB, bb⟩; dsimp only at rA rB ⊢; have KD := Lib.hid ((KC.out.step bb).step ((Below.refl _ _).alloc (Nat.le_refl _) (.cells #[.int .i64 ea, .string ⟨ES.toArray⟩, .slice A4 el.length c4, .string ⟨EX.toArray⟩, .slice B4 em.length d4] 41))); have RA := Lib.hid (row_step rA ((Below.refl _ _).alloc (Nat.le_refl _) (.cells #[.int .i64 ea, .string ⟨ES.toArray⟩, .slice A4 el.length c4, .string ⟨EX.toArray⟩, .slice B4 em.length d4] 41))); have RB := Lib.hid (row_step rB ((Below.refl _ _).alloc (Nat.le_refl _) (.cells #[.int .i64 ea, .string ⟨ES.toArray⟩, .slice A4 el.length c4, .string ⟨EX.toArray⟩, .slice B4 em.length d4] 41))); have VE := Lib.hid (Blk.new w6 41 #[.int .i64 ea, .string ⟨ES.toArray⟩, .slice A4 el.length c4, .string ⟨EX.toArray⟩, .slice B4 em.length d4]); have NE : Hid (w.heap.size + 1 + 1 < w6.heap.size) := (KC.out.step bb).res.lt; clear rA rB bb y0 y1 y2 y3 x0 x1)
            generalize hg19 : w6.heap.size = g19 at *
            generalize w6.alloc (.cells #[.int .i64 ea, .string ⟨ES.toArray⟩, .slice A4 el.length c4, .string ⟨EX.toArray⟩, .slice B4 em.length d4] 41) = we at *
            have KE := KD
            clear hg19 KC KD
            by_cases hen : en = 0
            · subst hen
              have HV4 := Lib.hid ((if_pos rfl).symm.trans HV2.out)
              go_upto_region 20 with fail
              have hb0 : Below we.heap.size we we := Below.refl _ _
              have hbz : Below we.heap.size we we.drew := below_drewN hb0 1
              have KS : Hid (∀ w', Below we.heap.size we w' → (w'.cell? ⟨g19, 0, none⟩ = some (.int .i64 ea) ∧ w'.cell? ⟨g19, 1, none⟩ = some (.string ⟨ES.toArray⟩) ∧ w'.cell? ⟨g19, 2, none⟩ = some (.slice A4 el.length c4) ∧ w'.cell? ⟨g19, 3, none⟩ = some (.string ⟨EX.toArray⟩) ∧ w'.cell? ⟨g19, 4, none⟩ = some (.slice B4 em.length d4))) := fun w' hb => ed_cells (VE.out.below hb VE.out.lt)
              refine wp_region_held_drew (S := fun w' => (w'.cell? ⟨g19, 0, none⟩ = some (.int .i64 ea) ∧ w'.cell? ⟨g19, 1, none⟩ = some (.string ⟨ES.toArray⟩) ∧ w'.cell? ⟨g19, 2, none⟩ = some (.slice A4 el.length c4) ∧ w'.cell? ⟨g19, 3, none⟩ = some (.string ⟨EX.toArray⟩) ∧ w'.cell? ⟨g19, 4, none⟩ = some (.slice B4 em.length d4))) (by kernel_rfl) (KS.out _ hbz) (fun hHeld => ?_)
              refine wpAnyH_take (i := 0) (v := ?_) rfl (by kernel_rfl) (by kernel_rfl) (by kernel_rfl) (fun _ _ _ h => h) (Or.inl ⟨by rfl, ?_⟩) (by assumption) ?_
              rotate_left
              · (intro w hSw; obtain ⟨q0, q1, q2, q3, q4⟩ := hSw; go_simp; (try with_reducible rfl))
              (try simp only [List.getElem_toArray, List.getElem_cons_zero, Act.put, List.setIfInBounds_toArray, List.set_cons_zero, List.set_cons_succ])
              refine wpAnyH_take (i := 1) (v := ?_) rfl (by kernel_rfl) (by kernel_rfl) (by kernel_rfl) (fun _ _ _ h => h) (Or.inl ⟨by rfl, ?_⟩) (by assumption) ?_
              rotate_left
              · (intro w hSw; obtain ⟨q0, q1, q2, q3, q4⟩ := hSw; go_simp; (try with_reducible rfl))
              (try simp only [List.getElem_toArray, List.getElem_cons_zero, List.getElem_cons_succ, Act.put, List.setIfInBounds_toArray, List.set_cons_zero, List.set_cons_succ])
              refine wpAnyH_take (i := 2) (v := ?_) rfl (by kernel_rfl) (by kernel_rfl) (by kernel_rfl) (fun _ _ _ h => h) (Or.inl ⟨by rfl, ?_⟩) (by assumption) ?_
              rotate_left
              · (intro w hSw; obtain ⟨q0, q1, q2, q3, q4⟩ := hSw; go_simp; (try with_reducible rfl))
              (try simp only [List.getElem_toArray, List.getElem_cons_zero, List.getElem_cons_succ, Act.put, List.setIfInBounds_toArray, List.set_cons_zero, List.set_cons_succ])
              refine wpAnyH_ready (rs := [3]) (by kernel_rfl) (by simp) ?_
              refine AllReadyH.cons rfl (fun K hK => ?_) AllReadyH.nil
              go_simp
              refine (HFI.out _).mono ?_
              rintro ee wz ⟨rfl, hby⟩
              have hbx : Below we.heap.size we wz := hbz.trans (hby.mono hbz.size)
              (try go_wp2_with fail)
              refine hK.out _ _ (KS.out _ hbx) (fun hHeld => ?_)
              clear hK K
              (try simp only [List.getElem_toArray, List.getElem_cons_zero, List.getElem_cons_succ, Act.put, List.setIfInBounds_toArray, List.set_cons_zero, List.set_cons_succ])
              refine wpAnyH_take (i := 4) (v := ?_) rfl (by kernel_rfl) (by kernel_rfl) (by kernel_rfl) (fun _ _ _ h => h) (Or.inl ⟨by rfl, ?_⟩) (by assumption) ?_
              rotate_left
              · (intro w hSw; obtain ⟨q0, q1, q2, q3, q4⟩ := hSw; go_simp; (try with_reducible rfl))
              (try simp only [List.getElem_toArray, List.getElem_cons_zero, List.getElem_cons_succ, Act.put, List.setIfInBounds_toArray, List.set_cons_zero, List.set_cons_succ])
              have KZ := Lib.hid (KE.out.step hbx)
              have RAZ := Lib.hid (row_step RA.out hbx)
              have RBZ := Lib.hid (row_step RB.out hbx)
              obtain ⟨⟨r0, r1, r2, r3, r4, r5, r6, r7, r8, r9⟩, t0, t1, t2, t3, t4, t5, t6, t7, t8, t9⟩ := out_cells KZ.out.res
              refine wpAnyH_ready (rs := [5]) (by kernel_rfl) (by simp) ?_
              refine AllReadyH.cons rfl (fun K hK => ?_) AllReadyH.nil
              go_simp
              refine hK.out _ _ (show _ from ed_cells (setMany_far (VE.out.below hbx VE.out.lt) (Nat.ne_of_gt NE.out) [(0, .int .i64 ea), (1, .string ⟨ES.toArray⟩), (2, .slice A4 el.length c4), (3, .string ⟨EX.toArray⟩), (4, .slice B4 em.length d4), (5, .string ⟨#[]⟩), (6, .slice none 0 0), (7, .bool false), (8, .bool false), (9, .int .i64 ((fi : Nat)))])) (fun hHeld => ?_)
              clear hK K
              (try simp only [List.getElem_toArray, List.getElem_cons_zero, List.getElem_cons_succ, Act.put, List.setIfInBounds_toArray, List.set_cons_zero, List.set_cons_succ])
              refine wpAnyH_take (i := 6) (v := ?_) rfl (by kernel_rfl) (by kernel_rfl) (by kernel_rfl) (fun _ _ _ h => h) (Or.inl ⟨by rfl, ?_⟩) (by assumption) ?_
              rotate_left
              · (intro w hSw; obtain ⟨q0, q1, q2, q3, q4⟩ := hSw; go_simp; (try with_reducible rfl))
              (try simp only [List.getElem_toArray, List.getElem_cons_zero, List.getElem_cons_succ, Act.put, List.setIfInBounds_toArray, List.set_cons_zero, List.set_cons_succ])
              refine wpAnyH_done (by kernel_rfl) ?_ _
              go_wp2_with fail
              exact end_out (A := A4) (B := B4) (C := none) (c := c4) (d := d4) (k := 0) (R := []) (l := el) (m := em) (q := []) rfl _ KZ.out.res noLab_out KZ.out.bel (by omega) RAZ.out RBZ.out (.inl rfl) rfl rfl rfl HV4.out (fun _ _ h => h)
            · have HV3 := Lib.hid ((if_neg hen).symm.trans HV2.out)
              have hn2 : ((en : Int) != 0) = true := by rw [bne_iff_ne]; omega
              obtain ⟨⟨r0, r1, r2, r3, r4, r5, r6, r7, r8, r9⟩, t0, t1, t2, t3, t4, t5, t6, t7, t8, t9⟩ := out_cells KE.out.res
              go_wp2_with fail
              exact end_zero rfl _ KE.out.res noLab_out KE.out.bel (by omega) rfl rfl rfl HV3.out (fun _ _ h => h)
          · have HV2 := Lib.hid ((if_neg htn).symm.trans HV1.out)
            have hn2 : ((tn : Int) != 0) = true := by rw [bne_iff_ne]; omega
            obtain ⟨⟨r0, r1, r2, r3, r4, r5, r6, r7, r8, r9⟩, t0, t1, t2, t3, t4, t5, t6, t7, t8, t9⟩ := out_cells KC.out.res
            go_wp2_with fail
            exact end_zero rfl _ KC.out.res noLab_out KC.out.bel (by omega) rfl rfl rfl HV2.out (fun _ _ h => h)
        · have HV1 := Lib.hid ((if_neg hcn).symm.trans HV.out)
          have hn2 : ((cn : Int) != 0) = true := by rw [bne_iff_ne]; omega
          obtain ⟨⟨r0, r1, r2, r3, r4, r5, r6, r7, r8, r9⟩, t0, t1, t2, t3, t4, t5, t6, t7, t8, t9⟩ := out_cells KA.out.res
          go_wp2_with fail
          exact end_zero rfl _ KA.out.res noLab_out KA.out.bel (by omega) rfl rfl rfl HV1.out (fun _ _ h => h)
end Go.Proofs.YtgpmfkedcoiopaaGreatDoor

/-
  The landed Put: layer 14.
-/
import Derived.Test.YtgpmfkedcoiopaaGreatDoorOxPutl
import Derived.Test.YtgpmfkedcoiopaaGreatDoorOxDo
namespace Go.Proofs.YtgpmfkedcoiopaaGreatDoor
open Go.RowKit
set_option maxRecDepth 100000

theorem tm_err {X : List UInt8} {m : List RunP} {n : Nat} (h : (tmT X m n).2 ≠ 0) : (tmT X m n).2 = 3 := by
  unfold tmT at h ⊢
  split at h
  · exact absurd rfl h
  · next e => rw [if_neg e]
theorem lay_some (S : List UInt8) (l : List RunP) (y p : Nat) (t : TP) : layM S l y p (some t) = turnedM S l y (p : Nat) (p : Nat) t.1 t.2 true := rfl
theorem lay_none (S : List UInt8) (l : List RunP) (y p : Nat) : layM S l y p none = ((edit0, []), 3) := by
  show turnedM S l y (p : Nat) (p : Nat) [] [] false = _
  exact if_pos rfl
theorem lay_tail (S : List UInt8) (l : List RunP) (y P F : Nat) (c t : TP × Nat) (r : Option TP) (hr : r = if c.2 = 0 then (if t.2 = 0 then some t.1 else none) else none) (hc : c.2 ≠ 0 → c.2 = 3) (ht : t.2 ≠ 0 → t.2 = 3) :
    (if (layM S l y P r).2 = 0 then ((⟨(layM S l y P r).1.1, [], [], false, false, (firstL (layM S l y P r).1.2 (F : Nat) : Nat)⟩ : OutP), 0) else (out0, (layM S l y P r).2)) = tailL S l y P F c t := by
  unfold tailL
  by_cases h1 : c.2 = 0
  · rw [if_pos h1] at hr
    rw [if_pos h1]
    by_cases h2 : t.2 = 0
    · rw [if_pos h2] at hr
      rw [if_pos h2, hr, lay_some]
    · rw [if_neg h2] at hr
      rw [if_neg h2, hr, lay_none, ht h2]
      rfl
  · rw [if_neg h1] at hr
    rw [if_neg h1, hr, lay_none, hc h1]
    rfl
theorem put_lines {S : List UInt8} {l : List RunP} {V : List UInt8} {y a : Nat} {X : List UInt8} {m : List RunP} {ah : Bool} {n : Nat} (hg : goodT X m = true) : putLM S l V y a X m ah n = ptL S l V y a X m ah n := by
  unfold putLM ptL
  generalize ofL V (a : Nat) = q
  have gn := good_nl y
  refine lay_tail S l y _ _ _ _ _ ?_ ?_ tm_err
  · unfold pairL frontL backL putLst nlT
    by_cases hd : ah = true ∨ q + 1 < countL V
    · rw [if_pos hd, if_pos hd, if_pos hd, times_two hg gn]
      dsimp only
      rw [catT_two hg gn]
      split
      · rw [if_pos rfl]
      · rw [if_neg (by decide)]
    · rw [if_neg hd, if_neg hd, if_neg hd, times_two gn hg]
      dsimp only
      rw [catT_two gn hg]
      split
      · rw [if_pos rfl]
      · rw [if_neg (by decide)]
  · unfold pairL frontL backL nlT
    by_cases hd : ah = true ∨ q + 1 < countL V
    · rw [if_pos hd, if_pos hd]
      dsimp only
      rw [catT_two hg gn]
      split
      · exact fun h => absurd rfl h
      · exact fun _ => rfl
    · rw [if_neg hd, if_neg hd]
      dsimp only
      rw [catT_two gn hg]
      split
      · exact fun h => absurd rfl h
      · exact fun _ => rfl
theorem times_is {X : List UInt8} {m : List RunP} (hg : goodT X m = true) (n : Nat) : timesM [(X, m)] n = if (tmT X m n).2 = 0 then some (tmT X m n).1 else none := by
  rw [times_tm hg]
  unfold tmT
  split
  · rw [if_pos rfl]
  · rw [if_neg (by decide)]
theorem put_is {S : List UInt8} {l : List RunP} {V : List UInt8} {y : Nat} (hV : (viewOf S l y).1 = V) (hn : (viewOf S l y).2 = 0) {p : Int} {X : List UInt8} {m : List RunP} (hg : goodT X m = true) (b ah : Bool) (n : Int) :
    putM S l y p X m b ah n = if b = true then ptL S l V y (alignM V p) X m ah (manyM n) else ptB S l V y (alignM V p) X m ah (manyM n) := by
  unfold putM
  rw [if_neg (fun h => h.elim (fun e => e hn) (fun e => by rw [hg] at e; exact absurd e (by decide))), hV]
  cases b with
  | true => rw [if_pos rfl, if_pos rfl]; exact put_lines hg
  | false =>
    rw [if_neg (show ¬(false = true) by decide), if_neg (show ¬(false = true) by decide), times_is hg]
    unfold ptB
    by_cases h2 : (tmT X m (manyM n)).2 = 0
    · rw [if_pos h2, if_pos h2, lay_some]
      rfl
    · rw [if_neg h2, if_neg h2, lay_none, tm_err h2]
      rfl
theorem put_bad {S : List UInt8} {l : List RunP} {y : Nat} {p : Int} {X : List UInt8} {m : List RunP} {b ah : Bool} {n : Int} (h : (viewOf S l y).2 ≠ 0 ∨ goodT X m = false) : putM S l y p X m b ah n = (out0, 2) := if_pos h
theorem en_cells {w : World} {g T : Nat} {X : List UInt8} {A2 : Option Addr} {m : List RunP} {c2 : Nat} {b : Bool} (h : Blk w g T #[.string ⟨X.toArray⟩, .slice A2 m.length c2, .bool b]) : w.cell? ⟨g, 0, none⟩ = some (.string ⟨X.toArray⟩) ∧ w.cell? ⟨g, 1, none⟩ = some (.slice A2 m.length c2) ∧ w.cell? ⟨g, 2, none⟩ = some (.bool b) := ⟨h.cell 0, h.cell 1, h.cell 2⟩
set_option maxHeartbeats 16000000 in
theorem oxPut_any (A A2 : Option Addr) (c c2 : Nat) (S X : List UInt8) (l m : List RunP) (y : Nat) (hy : y < 18446744073709551616) (p : Int) (b ah : Bool) (n : Int) (w : World) (h : Txu w A S l) (hX : Txu w A2 X m) :
    Calls Tryz.prog 22 #[.agg #[.string ⟨S.toArray⟩, .slice A l.length c], .int .u64 (y : Nat), .int .i64 p, .agg #[.string ⟨X.toArray⟩, .slice A2 m.length c2, .bool b], .bool ah, .int .i64 n] w (GivesO w (putM S l y p X m b ah n)) := by
  obtain ⟨v, hv⟩ : ∃ v, putM S l y p X m b ah n = v := ⟨_, rfl⟩
  rw [hv]
  have hbad := put_bad (S := S) (l := l) (y := y) (p := p) (X := X) (m := m) (b := b) (ah := ah) (n := n)
  have his := fun V hV hn hg => put_is (S := S) (l := l) (V := V) (y := y) hV hn (p := p) (X := X) (m := m) hg b ah n
  rw [hv] at hbad his
  obtain ⟨V, hV⟩ : ∃ V, (viewOf S l y).1 = V := ⟨_, rfl⟩
  obtain ⟨e0, he0⟩ : ∃ n, (viewOf S l y).2 = n := ⟨_, rfl⟩
  have HLK := Lib.hid (fun wx (hx : Txu wx A S l) => oxLook_any A c S l y hy wx hx)
  rw [hV, he0] at HLK
  rw [he0] at hbad
  have hvl := view_len S l y
  rw [hV] at hvl
  have bx := (boxesE3 w 32 36 43 #[.string ⟨S.toArray⟩, .slice A l.length c] #[.string ⟨X.toArray⟩, .slice A2 m.length c2, .bool b] #[.int .i64 0, .string ⟨#[]⟩, .slice none 0 0, .string ⟨#[]⟩, .slice none 0 0, .string ⟨#[]⟩, .slice none 0 0, .bool false, .bool false, .int .i64 0]).now
  have BX := Lib.hid bx
  have TX := Lib.hid (And.intro (grow_txu h _ bx.2.2.2) (grow_txu hX _ bx.2.2.2))
  have HGD := Lib.hid (fun wx (hx : Txu wx A2 X m) => stpGood_any A2 c2 _ X m wx (Nat.le_refl _) hx)
  clear h hX bx
  have LOOK : True := trivial
  clear LOOK
  by_cases hn0 : e0 = 0
  · subst hn0
    obtain ⟨hg, hVS, hvw⟩ := view_facts he0
    rw [hV] at hVS hvw
    cases hgX : goodT X m with
    | false =>
      have HV : Hid ((out0, 2) = v) := (hbad (.inr hgX)).symm
      rw [hgX] at HGD
      clear hbad his hv hV he0 hvw hVS hg hvl hgX
      go_enter Tryz.func22, Tryz.ntmps22
      go_upto_region 1 with fail
      generalize ((w.alloc (.cells #[.string ⟨S.toArray⟩, .slice A l.length c] 32)).alloc (.cells #[.string ⟨X.toArray⟩, .slice A2 m.length c2, .bool b] 36)).alloc (.cells #[.int .i64 0, .string ⟨#[]⟩, .slice none 0 0, .string ⟨#[]⟩, .slice none 0 0, .string ⟨#[]⟩, .slice none 0 0, .bool false, .bool false, .int .i64 0] 43) = wx at *
      obtain ⟨z0, z1⟩ := txt_cells BX.out.1
      go_upto_region 2 with (go_at_call 46; refine (HLK.out _ TX.out.1).mono ?_; rintro e w2 ⟨A1, c1, rfl, tS, bb⟩; have K2 : Hid (DoK w (w2.alloc (.cells #[.string ⟨S.toArray⟩, .slice A1 l.length c1, .int .u64 (y : Nat), .string ⟨V.toArray⟩] 89)) w2.heap.size (w.heap.size + 1 + 1) A1 c1 S l y V (w.heap.size + 1) 36 #[.string ⟨X.toArray⟩, .slice A2 m.length c2, .bool b]) := ⟨Blk.new w2 _ _, (BX.out.2.2.1.below bb BX.out.2.2.1.lt).alloc _, (BX.out.2.1.below bb BX.out.2.1.lt).alloc _, (BX.out.2.2.2.trans (bb.mono BX.out.2.2.2.size)).alloc (BX.out.2.2.2.trans (bb.mono BX.out.2.2.2.size)).size _, grow_txu tS _ ((Below.refl _ _).alloc (Nat.le_refl _) _)⟩; have X2 : Hid (Txu (w2.alloc (.cells #[.string ⟨S.toArray⟩, .slice A1 l.length c1, .int .u64 (y : Nat), .string ⟨V.toArray⟩] 89)) A2 X m) := grow_txu (grow_txu TX.out.2 _ bb) _ ((Below.refl _ _).alloc (Nat.le_refl _) _); have N2 : Hid (w.heap.size + 1 + 1 < w2.heap.size) := Nat.lt_of_lt_of_le BX.out.2.2.1.lt bb.size; clear tS bb z0 z1)
      generalize hg10 : w2.heap.size = g10 at *
      generalize w2.alloc (.cells #[.string ⟨S.toArray⟩, .slice A1 l.length c1, .int .u64 (y : Nat), .string ⟨V.toArray⟩] 89) = w3 at *
      clear hg10 BX TX HLK
      obtain ⟨u0, u1, u2⟩ := en_cells K2.out.oth
      go_upto_region 3 with (go_at_call 75; refine (HGD.out _ X2.out).mono ?_; rintro e w4 ⟨rfl, bb⟩; have K4 := Lib.hid (K2.out.step bb); clear bb)
      obtain ⟨⟨r0, r1, r2, r3, r4, r5, r6, r7, r8, r9⟩, t0, t1, t2, t3, t4, t5, t6, t7, t8, t9⟩ := out_cells K4.out.res
      go_wp2_with fail
      exact end_zero rfl _ K4.out.res noLab_out K4.out.bel (by omega) rfl rfl rfl HV.out (fun _ _ h => h)
    | true =>
      have hvv := his V hV he0 hgX
      have HAL := Lib.hid (fun wx => oxAlign_any V (by omega) p wx)
      have hal := alignM_le V p
      generalize alignM V p = a at *
      have mn := manyM_bounds n
      have HCO := Lib.hid (fun wx => oxCounted_any n wx)
      have HPL := Lib.hid (fun A c wx hx hx2 => oxPutL_any A A2 c c2 S l y hy V hvl a hal X m hgX ah (manyM n) mn.1 (by omega) wx hx hx2)
      have HPB := Lib.hid (fun A c wx hx hx2 => oxPutB_any A A2 c c2 S l y hy V hvl a hal X m hgX ah (manyM n) mn.1 (by omega) wx hx hx2)
      generalize manyM n = nn at *
      generalize ptL S l V y a X m ah nn = rl at *
      generalize ptB S l V y a X m ah nn = rb at *
      have HVV := Lib.hid hvv
      rw [hgX] at HGD
      clear hbad his hv hV he0 hvw hVS hg hgX hvv hal mn
      go_enter Tryz.func22, Tryz.ntmps22
      go_upto_region 1 with fail
      generalize ((w.alloc (.cells #[.string ⟨S.toArray⟩, .slice A l.length c] 32)).alloc (.cells #[.string ⟨X.toArray⟩, .slice A2 m.length c2, .bool b] 36)).alloc (.cells #[.int .i64 0, .string ⟨#[]⟩, .slice none 0 0, .string ⟨#[]⟩, .slice none 0 0, .string ⟨#[]⟩, .slice none 0 0, .bool false, .bool false, .int .i64 0] 43) = wx at *
      obtain ⟨z0, z1⟩ := txt_cells BX.out.1
      go_upto_region 2 with (go_at_call 46; refine (HLK.out _ TX.out.1).mono ?_; rintro e w2 ⟨A1, c1, rfl, tS, bb⟩; have K2 : Hid (DoK w (w2.alloc (.cells #[.string ⟨S.toArray⟩, .slice A1 l.length c1, .int .u64 (y : Nat), .string ⟨V.toArray⟩] 89)) w2.heap.size (w.heap.size + 1 + 1) A1 c1 S l y V (w.heap.size + 1) 36 #[.string ⟨X.toArray⟩, .slice A2 m.length c2, .bool b]) := ⟨Blk.new w2 _ _, (BX.out.2.2.1.below bb BX.out.2.2.1.lt).alloc _, (BX.out.2.1.below bb BX.out.2.1.lt).alloc _, (BX.out.2.2.2.trans (bb.mono BX.out.2.2.2.size)).alloc (BX.out.2.2.2.trans (bb.mono BX.out.2.2.2.size)).size _, grow_txu tS _ ((Below.refl _ _).alloc (Nat.le_refl _) _)⟩; have X2 : Hid (Txu (w2.alloc (.cells #[.string ⟨S.toArray⟩, .slice A1 l.length c1, .int .u64 (y : Nat), .string ⟨V.toArray⟩] 89)) A2 X m) := grow_txu (grow_txu TX.out.2 _ bb) _ ((Below.refl _ _).alloc (Nat.le_refl _) _); have N2 : Hid (w.heap.size + 1 + 1 < w2.heap.size) := Nat.lt_of_lt_of_le BX.out.2.2.1.lt bb.size; clear tS bb z0 z1)
      generalize hg10 : w2.heap.size = g10 at *
      generalize w2.alloc (.cells #[.string ⟨S.toArray⟩, .slice A1 l.length c1, .int .u64 (y : Nat), .string ⟨V.toArray⟩] 89) = w3 at *
      clear hg10 BX TX HLK
      obtain ⟨u0, u1, u2⟩ := en_cells K2.out.oth
      obtain ⟨⟨y0, y1, y2, y3⟩, _⟩ := si_cells K2.out.si
      go_upto_region 5 with (first
        | (go_at_call 75; refine (HGD.out _ X2.out).mono ?_; rintro e w4 ⟨rfl, bb⟩; have K4 := Lib.hid (K2.out.step bb); have X4 := Lib.hid (grow_txu X2.out _ bb); clear bb u0 u1 u2 y0 y1 y2 y3; obtain ⟨u0, u1, u2⟩ := en_cells K4.out.oth; obtain ⟨⟨y0, y1, y2, y3⟩, _⟩ := si_cells K4.out.si)
        | (go_at_call 40; refine (HAL.out _).mono ?_; rintro e w5 ⟨rfl, bb⟩; have K5 := Lib.hid (K4.out.step bb); have X5 := Lib.hid (grow_txu X4.out _ bb); clear bb u0 u1 u2 y0 y1 y2 y3; obtain ⟨u0, u1, u2⟩ := en_cells K5.out.oth; obtain ⟨⟨y0, y1, y2, y3⟩, _⟩ := si_cells K5.out.si))
      clear K2 K4 X2 X4 HAL HGD
      have hb0 : Below w5.heap.size w5 w5 := Below.refl _ _
      have hbz : Below w5.heap.size w5 w5.drew := below_drewN hb0 1
      have KS : Hid (∀ w', Below w5.heap.size w5 w' → ((w'.cell? ⟨g10, 0, none⟩ = some (.string ⟨S.toArray⟩) ∧ w'.cell? ⟨g10, 1, none⟩ = some (.slice A1 l.length c1) ∧ w'.cell? ⟨g10, 2, none⟩ = some (.int .u64 (y : Nat)) ∧ w'.cell? ⟨g10, 3, none⟩ = some (.string ⟨V.toArray⟩)) ∧ w'.cell? ⟨w.heap.size + 1, 0, none⟩ = some (.string ⟨X.toArray⟩) ∧ w'.cell? ⟨w.heap.size + 1, 1, none⟩ = some (.slice A2 m.length c2))) := fun w' hb => ⟨(si_cells (K5.out.step hb).si).1, (en_cells (K5.out.step hb).oth).1, (en_cells (K5.out.step hb).oth).2.1⟩
      cases b with
      | true =>
        have HV2 : Hid (v = rl) := HVV.out.trans (if_pos rfl)
        clear HVV HPB
        obtain ⟨⟨⟨ea, ES, el, EX, em⟩, ER, eq, bl, bw, z⟩, en⟩ := rl
        go_upto_region 6 with fail
        clear u0 u1 u2 y0 y1 y2 y3
        refine wp_region_held_drew (S := fun w' => ((w'.cell? ⟨g10, 0, none⟩ = some (.string ⟨S.toArray⟩) ∧ w'.cell? ⟨g10, 1, none⟩ = some (.slice A1 l.length c1) ∧ w'.cell? ⟨g10, 2, none⟩ = some (.int .u64 (y : Nat)) ∧ w'.cell? ⟨g10, 3, none⟩ = some (.string ⟨V.toArray⟩)) ∧ w'.cell? ⟨w.heap.size + 1, 0, none⟩ = some (.string ⟨X.toArray⟩) ∧ w'.cell? ⟨w.heap.size + 1, 1, none⟩ = some (.slice A2 m.length c2))) (by kernel_rfl) (KS.out _ hbz) (fun hHeld => ?_)
        refine wpAnyH_take (i := 0) (v := ?_) rfl (by kernel_rfl) (by kernel_rfl) (by kernel_rfl) (fun _ _ _ h => h) (Or.inl ⟨by rfl, ?_⟩) (by assumption) ?_
        rotate_left
        · (intro w hSw; obtain ⟨⟨q0, q1, q2, q3⟩, q4, q5⟩ := hSw; go_simp; (try with_reducible rfl))
        (try simp only [List.getElem_toArray, List.getElem_cons_zero, Act.put, List.setIfInBounds_toArray, List.set_cons_zero, List.set_cons_succ])
        refine wpAnyH_take (i := 1) (v := ?_) rfl (by kernel_rfl) (by kernel_rfl) (by kernel_rfl) (fun _ _ _ h => h) (Or.inl ⟨by rfl, ?_⟩) (by assumption) ?_
        rotate_left
        · (intro w hSw; obtain ⟨⟨q0, q1, q2, q3⟩, q4, q5⟩ := hSw; go_simp; (try with_reducible rfl))
        (try simp only [List.getElem_toArray, List.getElem_cons_zero, List.getElem_cons_succ, Act.put, List.setIfInBounds_toArray, List.set_cons_zero, List.set_cons_succ])
        refine wpAnyH_take (i := 2) (v := ?_) rfl (by kernel_rfl) (by kernel_rfl) (by kernel_rfl) (fun _ _ _ h => h) (Or.inl ⟨by rfl, ?_⟩) (by assumption) ?_
        rotate_left
        · (intro w hSw; obtain ⟨⟨q0, q1, q2, q3⟩, q4, q5⟩ := hSw; go_simp; (try with_reducible rfl))
        (try simp only [List.getElem_toArray, List.getElem_cons_zero, List.getElem_cons_succ, Act.put, List.setIfInBounds_toArray, List.set_cons_zero, List.set_cons_succ])
        refine wpAnyH_take (i := 3) (v := ?_) rfl (by kernel_rfl) (by kernel_rfl) (by kernel_rfl) (fun _ _ _ h => h) (Or.inl ⟨by rfl, ?_⟩) (by assumption) ?_
        rotate_left
        · (intro w hSw; obtain ⟨⟨q0, q1, q2, q3⟩, q4, q5⟩ := hSw; go_simp; (try with_reducible rfl))
        (try simp only [List.getElem_toArray, List.getElem_cons_zero, List.getElem_cons_succ, Act.put, List.setIfInBounds_toArray, List.set_cons_zero, List.set_cons_succ])
        refine wpAnyH_take (i := 4) (v := ?_) rfl (by kernel_rfl) (by kernel_rfl) (by kernel_rfl) (fun _ _ _ h => h) (Or.inl ⟨by rfl, ?_⟩) (by assumption) ?_
        rotate_left
        · (intro w hSw; obtain ⟨⟨q0, q1, q2, q3⟩, q4, q5⟩ := hSw; go_simp; (try with_reducible rfl))
        (try simp only [List.getElem_toArray, List.getElem_cons_zero, List.getElem_cons_succ, Act.put, List.setIfInBounds_toArray, List.set_cons_zero, List.set_cons_succ])
        refine wpAnyH_take (i := 5) (v := ?_) rfl (by kernel_rfl) (by kernel_rfl) (by kernel_rfl) (fun _ _ _ h => h) (Or.inl ⟨by rfl, ?_⟩) (by assumption) ?_
        rotate_left
        · (intro w hSw; obtain ⟨⟨q0, q1, q2, q3⟩, q4, q5⟩ := hSw; go_simp; (try with_reducible rfl))
        (try simp only [List.getElem_toArray, List.getElem_cons_zero, List.getElem_cons_succ, Act.put, List.setIfInBounds_toArray, List.set_cons_zero, List.set_cons_succ])
        refine wpAnyH_ready (rs := [6]) (by kernel_rfl) (by simp) ?_
        refine AllReadyH.cons rfl (fun K hK => ?_) AllReadyH.nil
        go_simp
        refine (HCO.out _).mono ?_
        rintro ee wy ⟨rfl, hwy⟩
        subst hwy
        (try go_wp2_with fail)
        refine hK.out _ _ (KS.out _ hbz) (fun hHeld => ?_)
        clear hK K
        (try simp only [List.getElem_toArray, List.getElem_cons_zero, List.getElem_cons_succ, Act.put, List.setIfInBounds_toArray, List.set_cons_zero, List.set_cons_succ])
        have KT := Lib.hid (K5.out.step hbz)
        have XT := Lib.hid (grow_txu X5.out _ hbz)
        refine wpAnyH_ready (rs := [7]) (by kernel_rfl) (by simp) ?_
        refine AllReadyH.cons rfl (fun K hK => ?_) AllReadyH.nil
        go_simp
        refine (HPL.out _ _ _ KT.out.tS XT.out).mono ?_
        rintro ee wz ⟨A4, c4, B4, d4, C4, k4, rfl, rA, rB, rC, hby⟩
        dsimp only at rA rB rC ⊢
        have hbx : Below w5.heap.size w5 wz := hbz.trans (hby.mono hbz.size)
        (try go_wp2_with fail)
        refine hK.out _ _ (KS.out _ hbx) (fun hHeld => ?_)
        clear hK K
        (try simp only [List.getElem_toArray, List.getElem_cons_zero, List.getElem_cons_succ, Act.put, List.setIfInBounds_toArray, List.set_cons_zero, List.set_cons_succ])
        refine wpAnyH_take (i := 8) (v := ?_) rfl (by kernel_rfl) (by kernel_rfl) (by kernel_rfl) (fun _ _ _ h => h) (Or.inl ⟨by rfl, ?_⟩) (by assumption) ?_
        rotate_left
        · (intro w hSw; obtain ⟨⟨q0, q1, q2, q3⟩, q4, q5⟩ := hSw; go_simp; (try with_reducible rfl))
        (try simp only [List.getElem_toArray, List.getElem_cons_zero, List.getElem_cons_succ, Act.put, List.setIfInBounds_toArray, List.set_cons_zero, List.set_cons_succ])
        refine wpAnyH_take (i := 9) (v := ?_) rfl (by kernel_rfl) (by kernel_rfl) (by kernel_rfl) (fun _ _ _ h => h) (Or.inl ⟨by rfl, ?_⟩) (by assumption) ?_
        rotate_left
        · (intro w hSw; obtain ⟨⟨q0, q1, q2, q3⟩, q4, q5⟩ := hSw; go_simp; (try with_reducible rfl))
        (try simp only [List.getElem_toArray, List.getElem_cons_zero, List.getElem_cons_succ, Act.put, List.setIfInBounds_toArray, List.set_cons_zero, List.set_cons_succ])
        have KZ := Lib.hid (K5.out.step hbx)
        have hlow : w.heap.size + 1 + 1 < w5.heap.size := K5.out.res.lt
        obtain ⟨⟨r0, r1, r2, r3, r4, r5, r6, r7, r8, r9⟩, t0, t1, t2, t3, t4, t5, t6, t7, t8, t9⟩ := out_cells KZ.out.res
        refine wpAnyH_ready (rs := [10]) (by kernel_rfl) (by simp) ?_
        refine AllReadyH.cons rfl (fun K hK => ?_) AllReadyH.nil
        go_simp
        refine hK.out _ _ (show _ from ⟨(si_cells (setMany_far KZ.out.si (Nat.ne_of_gt N2.out) [(0, .int .i64 ea), (1, .string ⟨ES.toArray⟩), (2, .slice A4 el.length c4), (3, .string ⟨EX.toArray⟩), (4, .slice B4 em.length d4), (5, .string ⟨ER.toArray⟩), (6, .slice C4 eq.length k4), (7, .bool bl), (8, .bool bw), (9, .int .i64 z)])).1, (en_cells (setMany_far KZ.out.oth (by omega) [(0, .int .i64 ea), (1, .string ⟨ES.toArray⟩), (2, .slice A4 el.length c4), (3, .string ⟨EX.toArray⟩), (4, .slice B4 em.length d4), (5, .string ⟨ER.toArray⟩), (6, .slice C4 eq.length k4), (7, .bool bl), (8, .bool bw), (9, .int .i64 z)])).1, (en_cells (setMany_far KZ.out.oth (by omega) [(0, .int .i64 ea), (1, .string ⟨ES.toArray⟩), (2, .slice A4 el.length c4), (3, .string ⟨EX.toArray⟩), (4, .slice B4 em.length d4), (5, .string ⟨ER.toArray⟩), (6, .slice C4 eq.length k4), (7, .bool bl), (8, .bool bw), (9, .int .i64 z)])).2.1⟩) (fun hHeld => ?_)
        clear hK K
        (try simp only [List.getElem_toArray, List.getElem_cons_zero, List.getElem_cons_succ, Act.put, List.setIfInBounds_toArray, List.set_cons_zero, List.set_cons_succ])
        refine wpAnyH_take (i := 11) (v := ?_) rfl (by kernel_rfl) (by kernel_rfl) (by kernel_rfl) (fun _ _ _ h => h) (Or.inl ⟨by rfl, ?_⟩) (by assumption) ?_
        rotate_left
        · (intro w hSw; obtain ⟨⟨q0, q1, q2, q3⟩, q4, q5⟩ := hSw; go_simp; (try with_reducible rfl))
        (try simp only [List.getElem_toArray, List.getElem_cons_zero, List.getElem_cons_succ, Act.put, List.setIfInBounds_toArray, List.set_cons_zero, List.set_cons_succ])
        refine wpAnyH_done (by kernel_rfl) ?_ _
        go_wp2_with fail
        exact end_out rfl _ KZ.out.res noLab_out KZ.out.bel (by omega) rA rB rC rfl rfl rfl HV2.out.symm (fun _ _ h => h)
      | false =>
        have HV2 : Hid (v = rb) := HVV.out.trans (if_neg (by decide))
        clear HVV HPL
        obtain ⟨⟨⟨ea, ES, el, EX, em⟩, ER, eq, bl, bw, z⟩, en⟩ := rb
        go_upto_region 7 with fail
        clear u0 u1 u2 y0 y1 y2 y3
        refine wp_region_held_drew (S := fun w' => ((w'.cell? ⟨g10, 0, none⟩ = some (.string ⟨S.toArray⟩) ∧ w'.cell? ⟨g10, 1, none⟩ = some (.slice A1 l.length c1) ∧ w'.cell? ⟨g10, 2, none⟩ = some (.int .u64 (y : Nat)) ∧ w'.cell? ⟨g10, 3, none⟩ = some (.string ⟨V.toArray⟩)) ∧ w'.cell? ⟨w.heap.size + 1, 0, none⟩ = some (.string ⟨X.toArray⟩) ∧ w'.cell? ⟨w.heap.size + 1, 1, none⟩ = some (.slice A2 m.length c2))) (by kernel_rfl) (KS.out _ hbz) (fun hHeld => ?_)
        refine wpAnyH_take (i := 0) (v := ?_) rfl (by kernel_rfl) (by kernel_rfl) (by kernel_rfl) (fun _ _ _ h => h) (Or.inl ⟨by rfl, ?_⟩) (by assumption) ?_
        rotate_left
        · (intro w hSw; obtain ⟨⟨q0, q1, q2, q3⟩, q4, q5⟩ := hSw; go_simp; (try with_reducible rfl))
        (try simp only [List.getElem_toArray, List.getElem_cons_zero, Act.put, List.setIfInBounds_toArray, List.set_cons_zero, List.set_cons_succ])
        refine wpAnyH_take (i := 1) (v := ?_) rfl (by kernel_rfl) (by kernel_rfl) (by kernel_rfl) (fun _ _ _ h => h) (Or.inl ⟨by rfl, ?_⟩) (by assumption) ?_
        rotate_left
        · (intro w hSw; obtain ⟨⟨q0, q1, q2, q3⟩, q4, q5⟩ := hSw; go_simp; (try with_reducible rfl))
        (try simp only [List.getElem_toArray, List.getElem_cons_zero, List.getElem_cons_succ, Act.put, List.setIfInBounds_toArray, List.set_cons_zero, List.set_cons_succ])
        refine wpAnyH_take (i := 2) (v := ?_) rfl (by kernel_rfl) (by kernel_rfl) (by kernel_rfl) (fun _ _ _ h => h) (Or.inl ⟨by rfl, ?_⟩) (by assumption) ?_
        rotate_left
        · (intro w hSw; obtain ⟨⟨q0, q1, q2, q3⟩, q4, q5⟩ := hSw; go_simp; (try with_reducible rfl))
        (try simp only [List.getElem_toArray, List.getElem_cons_zero, List.getElem_cons_succ, Act.put, List.setIfInBounds_toArray, List.set_cons_zero, List.set_cons_succ])
        refine wpAnyH_take (i := 3) (v := ?_) rfl (by kernel_rfl) (by kernel_rfl) (by kernel_rfl) (fun _ _ _ h => h) (Or.inl ⟨by rfl, ?_⟩) (by assumption) ?_
        rotate_left
        · (intro w hSw; obtain ⟨⟨q0, q1, q2, q3⟩, q4, q5⟩ := hSw; go_simp; (try with_reducible rfl))
        (try simp only [List.getElem_toArray, List.getElem_cons_zero, List.getElem_cons_succ, Act.put, List.setIfInBounds_toArray, List.set_cons_zero, List.set_cons_succ])
        refine wpAnyH_take (i := 4) (v := ?_) rfl (by kernel_rfl) (by kernel_rfl) (by kernel_rfl) (fun _ _ _ h => h) (Or.inl ⟨by rfl, ?_⟩) (by assumption) ?_
        rotate_left
        · (intro w hSw; obtain ⟨⟨q0, q1, q2, q3⟩, q4, q5⟩ := hSw; go_simp; (try with_reducible rfl))
        (try simp only [List.getElem_toArray, List.getElem_cons_zero, List.getElem_cons_succ, Act.put, List.setIfInBounds_toArray, List.set_cons_zero, List.set_cons_succ])
        refine wpAnyH_take (i := 5) (v := ?_) rfl (by kernel_rfl) (by kernel_rfl) (by kernel_rfl) (fun _ _ _ h => h) (Or.inl ⟨by rfl, ?_⟩) (by assumption) ?_
        rotate_left
        · (intro w hSw; obtain ⟨⟨q0, q1, q2, q3⟩, q4, q5⟩ := hSw; go_simp; (try with_reducible rfl))
        (try simp only [List.getElem_toArray, List.getElem_cons_zero, List.getElem_cons_succ, Act.put, List.setIfInBounds_toArray, List.set_cons_zero, List.set_cons_succ])
        refine wpAnyH_ready (rs := [6]) (by kernel_rfl) (by simp) ?_
        refine AllReadyH.cons rfl (fun K hK => ?_) AllReadyH.nil
        go_simp
        refine (HCO.out _).mono ?_
        rintro ee wy ⟨rfl, hwy⟩
        subst hwy
        (try go_wp2_with fail)
        refine hK.out _ _ (KS.out _ hbz) (fun hHeld => ?_)
        clear hK K
        (try simp only [List.getElem_toArray, List.getElem_cons_zero, List.getElem_cons_succ, Act.put, List.setIfInBounds_toArray, List.set_cons_zero, List.set_cons_succ])
        have KT := Lib.hid (K5.out.step hbz)
        have XT := Lib.hid (grow_txu X5.out _ hbz)
        refine wpAnyH_ready (rs := [7]) (by kernel_rfl) (by simp) ?_
        refine AllReadyH.cons rfl (fun K hK => ?_) AllReadyH.nil
        go_simp
        refine (HPB.out _ _ _ KT.out.tS XT.out).mono ?_
        rintro ee wz ⟨A4, c4, B4, d4, C4, k4, rfl, rA, rB, rC, hby⟩
        dsimp only at rA rB rC ⊢
        have hbx : Below w5.heap.size w5 wz := hbz.trans (hby.mono hbz.size)
        (try go_wp2_with fail)
        refine hK.out _ _ (KS.out _ hbx) (fun hHeld => ?_)
        clear hK K
        (try simp only [List.getElem_toArray, List.getElem_cons_zero, List.getElem_cons_succ, Act.put, List.setIfInBounds_toArray, List.set_cons_zero, List.set_cons_succ])
        refine wpAnyH_take (i := 8) (v := ?_) rfl (by kernel_rfl) (by kernel_rfl) (by kernel_rfl) (fun _ _ _ h => h) (Or.inl ⟨by rfl, ?_⟩) (by assumption) ?_
        rotate_left
        · (intro w hSw; obtain ⟨⟨q0, q1, q2, q3⟩, q4, q5⟩ := hSw; go_simp; (try with_reducible rfl))
        (try simp only [List.getElem_toArray, List.getElem_cons_zero, List.getElem_cons_succ, Act.put, List.setIfInBounds_toArray, List.set_cons_zero, List.set_cons_succ])
        refine wpAnyH_take (i := 9) (v := ?_) rfl (by kernel_rfl) (by kernel_rfl) (by kernel_rfl) (fun _ _ _ h => h) (Or.inl ⟨by rfl, ?_⟩) (by assumption) ?_
        rotate_left
        · (intro w hSw; obtain ⟨⟨q0, q1, q2, q3⟩, q4, q5⟩ := hSw; go_simp; (try with_reducible rfl))
        (try simp only [List.getElem_toArray, List.getElem_cons_zero, List.getElem_cons_succ, Act.put, List.setIfInBounds_toArray, List.set_cons_zero, List.set_cons_succ])
        have KZ := Lib.hid (K5.out.step hbx)
        have hlow : w.heap.size + 1 + 1 < w5.heap.size := K5.out.res.lt
        obtain ⟨⟨r0, r1, r2, r3, r4, r5, r6, r7, r8, r9⟩, t0, t1, t2, t3, t4, t5, t6, t7, t8, t9⟩ := out_cells KZ.out.res
        refine wpAnyH_ready (rs := [10]) (by kernel_rfl) (by simp) ?_
        refine AllReadyH.cons rfl (fun K hK => ?_) AllReadyH.nil
        go_simp
        refine hK.out _ _ (show _ from ⟨(si_cells (setMany_far KZ.out.si (Nat.ne_of_gt N2.out) [(0, .int .i64 ea), (1, .string ⟨ES.toArray⟩), (2, .slice A4 el.length c4), (3, .string ⟨EX.toArray⟩), (4, .slice B4 em.length d4), (5, .string ⟨ER.toArray⟩), (6, .slice C4 eq.length k4), (7, .bool bl), (8, .bool bw), (9, .int .i64 z)])).1, (en_cells (setMany_far KZ.out.oth (by omega) [(0, .int .i64 ea), (1, .string ⟨ES.toArray⟩), (2, .slice A4 el.length c4), (3, .string ⟨EX.toArray⟩), (4, .slice B4 em.length d4), (5, .string ⟨ER.toArray⟩), (6, .slice C4 eq.length k4), (7, .bool bl), (8, .bool bw), (9, .int .i64 z)])).1, (en_cells (setMany_far KZ.out.oth (by omega) [(0, .int .i64 ea), (1, .string ⟨ES.toArray⟩), (2, .slice A4 el.length c4), (3, .string ⟨EX.toArray⟩), (4, .slice B4 em.length d4), (5, .string ⟨ER.toArray⟩), (6, .slice C4 eq.length k4), (7, .bool bl), (8, .bool bw), (9, .int .i64 z)])).2.1⟩) (fun hHeld => ?_)
        clear hK K
        (try simp only [List.getElem_toArray, List.getElem_cons_zero, List.getElem_cons_succ, Act.put, List.setIfInBounds_toArray, List.set_cons_zero, List.set_cons_succ])
        refine wpAnyH_take (i := 11) (v := ?_) rfl (by kernel_rfl) (by kernel_rfl) (by kernel_rfl) (fun _ _ _ h => h) (Or.inl ⟨by rfl, ?_⟩) (by assumption) ?_
        rotate_left
        · (intro w hSw; obtain ⟨⟨q0, q1, q2, q3⟩, q4, q5⟩ := hSw; go_simp; (try with_reducible rfl))
        (try simp only [List.getElem_toArray, List.getElem_cons_zero, List.getElem_cons_succ, Act.put, List.setIfInBounds_toArray, List.set_cons_zero, List.set_cons_succ])
        refine wpAnyH_done (by kernel_rfl) ?_ _
        go_wp2_with fail
        exact end_out rfl _ KZ.out.res noLab_out KZ.out.bel (by omega) rA rB rC rfl rfl rfl HV2.out.symm (fun _ _ h => h)
  · have HV : Hid ((out0, 2) = v) := (hbad (.inl hn0)).symm
    have hn2 : ((e0 : Int) != 0) = true := by rw [bne_iff_ne]; omega
    clear hbad his hv hV he0 hvl HGD
    go_enter Tryz.func22, Tryz.ntmps22
    go_upto_region 1 with fail
    generalize ((w.alloc (.cells #[.string ⟨S.toArray⟩, .slice A l.length c] 32)).alloc (.cells #[.string ⟨X.toArray⟩, .slice A2 m.length c2, .bool b] 36)).alloc (.cells #[.int .i64 0, .string ⟨#[]⟩, .slice none 0 0, .string ⟨#[]⟩, .slice none 0 0, .string ⟨#[]⟩, .slice none 0 0, .bool false, .bool false, .int .i64 0] 43) = wx at *
    obtain ⟨z0, z1⟩ := txt_cells BX.out.1
    go_upto_region 2 with (go_at_call 46; refine (HLK.out _ TX.out.1).mono ?_; rintro e w2 ⟨A1, c1, rfl, tS, bb⟩; have K2 : Hid (DoK w (w2.alloc (.cells #[.string ⟨S.toArray⟩, .slice A1 l.length c1, .int .u64 (y : Nat), .string ⟨V.toArray⟩] 89)) w2.heap.size (w.heap.size + 1 + 1) A1 c1 S l y V (w.heap.size + 1) 36 #[.string ⟨X.toArray⟩, .slice A2 m.length c2, .bool b]) := ⟨Blk.new w2 _ _, (BX.out.2.2.1.below bb BX.out.2.2.1.lt).alloc _, (BX.out.2.1.below bb BX.out.2.1.lt).alloc _, (BX.out.2.2.2.trans (bb.mono BX.out.2.2.2.size)).alloc (BX.out.2.2.2.trans (bb.mono BX.out.2.2.2.size)).size _, grow_txu tS _ ((Below.refl _ _).alloc (Nat.le_refl _) _)⟩; have X2 : Hid (Txu (w2.alloc (.cells #[.string ⟨S.toArray⟩, .slice A1 l.length c1, .int .u64 (y : Nat), .string ⟨V.toArray⟩] 89)) A2 X m) := grow_txu (grow_txu TX.out.2 _ bb) _ ((Below.refl _ _).alloc (Nat.le_refl _) _); have N2 : Hid (w.heap.size + 1 + 1 < w2.heap.size) := Nat.lt_of_lt_of_le BX.out.2.2.1.lt bb.size; clear tS bb z0 z1)
    generalize hg10 : w2.heap.size = g10 at *
    generalize w2.alloc (.cells #[.string ⟨S.toArray⟩, .slice A1 l.length c1, .int .u64 (y : Nat), .string ⟨V.toArray⟩] 89) = w3 at *
    clear hg10 BX TX HLK
    go_upto_region 3 with fail
    obtain ⟨⟨r0, r1, r2, r3, r4, r5, r6, r7, r8, r9⟩, t0, t1, t2, t3, t4, t5, t6, t7, t8, t9⟩ := out_cells K2.out.res
    go_wp2_with fail
    exact end_zero rfl _ K2.out.res noLab_out K2.out.bel (by omega) rfl rfl rfl HV.out (fun _ _ h => h)
end Go.Proofs.YtgpmfkedcoiopaaGreatDoor

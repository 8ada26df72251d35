/-
  Package oper's answer is the document's: layer 14, OperSpans.
-/
import Derived.Test.YtgpmfkedcoiopaaGreatDoorM14e
namespace Go.Proofs.YtgpmfkedcoiopaaGreatDoor
open Go.RowKit
set_option maxRecDepth 100000
theorem rng_many {w : World} {g T : Nat} {a b c : Value} (h : Blk w g T #[a, b, c]) (u0 u1 u2 : Value) : Blk (setMany w g [(0, u0), (1, u1), (2, u2)]) g T #[u0, u1, u2] := by
  have := setMany_blk h [(0, u0), (1, u1), (2, u2)]
  simpa using this
theorem at_many {w : World} {g k : Nat} {u v : Value} (h : w.cell? ⟨k, 0, none⟩ = some u ∧ w.cell? ⟨k, 1, none⟩ = some v) (hk : g ≠ k) (us : List (Nat × Value)) : (setMany w g us).cell? ⟨k, 0, none⟩ = some u ∧ (setMany w g us).cell? ⟨k, 1, none⟩ = some v := by
  have key : ∀ (us : List (Nat × Value)) (w : World) (i : Nat), (setMany w g us).cell? ⟨k, i, none⟩ = w.cell? ⟨k, i, none⟩ := by
    intro us
    induction us with
    | nil => intro w i; rfl
    | cons p us ih =>
      intro w i
      have e := ih (w.setCell ⟨g, p.1, none⟩ p.2) i
      have e2 : (w.setCell ⟨g, p.1, none⟩ p.2).cell? ⟨k, i, none⟩ = w.cell? ⟨k, i, none⟩ := World.cell?_of_block (heap_setCell_other w ⟨g, p.1, none⟩ k p.2 (fun e => hk e.symm))
      exact e.trans e2
  exact ⟨(key us w 0).trans h.1, (key us w 1).trans h.2⟩
set_option maxHeartbeats 16000000 in
theorem operSpans_walk (w : World) (KO : OperSays w) (S : List UInt8) (p q k : Int) (hp : -9223372036854775808 ≤ p ∧ p ≤ 9223372036854775807) (hq : -9223372036854775808 ≤ q ∧ q ≤ 9223372036854775807) (hk : -9223372036854775808 ≤ k ∧ k ≤ 9223372036854775807) :
    Calls Tryz.prog 3 #[.string ⟨S.toArray⟩, .agg #[.int .i64 p, .int .i64 q], .int .i64 k] w fun e w' => e = .returned (.bool true) ∧ Below w.heap.size w w' := by
  have HS := Lib.hid KO
  clear KO
  have b0 : Below w.heap.size w (w.alloc (.cells #[.int .i64 p, .int .i64 q] 22)) := (Below.refl _ _).alloc (Nat.le_refl _) _
  have Kj := grow_new w 22 #[.int .i64 p, .int .i64 q]
  have Kb : Grow (w.alloc (.cells #[.int .i64 p, .int .i64 q] 22)) (fun w' => Below w.heap.size w w') := fun w' hb => b0.trans (hb.mono b0.size)
  have K := Lib.hid (Kj.and Kb)
  clear Kj Kb b0
  go_enter Tryz.func3, Tryz.ntmps3
  go_upto_region 1 with fail
  generalize w.alloc (.cells #[.int .i64 p, .int .i64 q] 22) = wb at *
  by_cases hs : S.length ≤ 1024
  · have h1 : ¬ (1024 : Int) < (S.length : Int) := by omega
    go_upto_region 5 with (go_at_call 12; refine (aliveP_any _ (HS.out.at K.out.now.2)).mono ?_; rintro e w1 ⟨rfl, bb⟩; replace K := Lib.hid (K.out.step bb); clear bb)
    have HA0 := Lib.hid (fun wx hb => HS.out.span S p q k wx hb (by omega) hp hq hk)
    have HB0 := Lib.hid (fun wx => refPSpan_any S (by omega) p q k wx)
    generalize spanM S p q k = sp at *
    obtain ⟨F, T, B⟩ := sp
    dsimp only at HA0 HB0
    have hb0 : Below w1.heap.size w1 w1 := Below.refl _ _
    have hbz : Below w1.heap.size w1 w1.drew := below_drewN hb0 1
    have hlow : w.heap.size < w1.heap.size := K.out.now.1.lt
    have HA : Hid (∀ wx, Below w1.heap.size w1 wx → Calls Tryz.prog 13 #[.string ⟨S.toArray⟩, .int .i64 p, .int .i64 q, .int .i64 k] wx fun e w' => e = .returned (.agg #[.int .i64 F, .int .i64 T, .bool B]) ∧ Below w1.heap.size w1 w' ∧ Below wx.heap.size wx w') := fun wx hb => (HA0.out wx (K.out wx hb).2).mono fun e w' ⟨he, h2⟩ => ⟨he, hb.trans (h2.mono hb.size), h2⟩
    have HB : Hid (∀ wx, Below w1.heap.size w1 wx → Calls Tryz.prog 14 #[.string ⟨S.toArray⟩, .int .i64 p, .int .i64 q, .int .i64 k] wx fun e w' => e = .returned (.agg #[.int .i64 F, .int .i64 T, .bool B]) ∧ Below w1.heap.size w1 w' ∧ Below wx.heap.size wx w') := fun wx hb => (HB0.out wx).mono fun e w' ⟨he, h2⟩ => ⟨he, hb.trans (h2.mono hb.size), h2⟩
    have KS : Hid (∀ w', Below w1.heap.size w1 w' → w'.cell? ⟨w.heap.size, 0, none⟩ = some (.int .i64 p) ∧ w'.cell? ⟨w.heap.size, 1, none⟩ = some (.int .i64 q)) := fun w' hb => ⟨(K.out w' hb).1.cell 0, (K.out w' hb).1.cell 1⟩
    clear HA0 HB0 HS
    go_cut [7, 8] (fun s7 s8 wq => ∃ (g1 g2 : Nat), s7 = .pointer (some ⟨g1, 0, none⟩) ∧ s8 = .pointer (some ⟨g2, 0, none⟩) ∧ Blk wq g1 25 #[.int .i64 F, .int .i64 T, .bool B] ∧ Blk wq g2 27 #[.int .i64 F, .int .i64 T, .bool B] ∧ Below w1.heap.size w1 wq)
    case first =>
      refine wp_region_held_drew (S := fun w' => w'.cell? ⟨w.heap.size, 0, none⟩ = some (.int .i64 p) ∧ w'.cell? ⟨w.heap.size, 1, none⟩ = some (.int .i64 q)) (by kernel_rfl) (KS.out _ hbz) (fun hHeld => ?_)
      refine wpAnyH_take (i := 0) (v := ?_) rfl (by kernel_rfl) (by kernel_rfl) (by kernel_rfl) (fun _ _ _ h => h) (Or.inl ⟨by rfl, ?_⟩) (by assumption) ?_
      rotate_left
      · (intro w hSw; obtain ⟨q0, q1⟩ := hSw; go_simp; (try with_reducible rfl))
      (try simp only [List.getElem_toArray, List.getElem_cons_zero, Act.put, List.setIfInBounds_toArray, List.set_cons_zero, List.set_cons_succ])
      refine wpAnyH_take (i := 1) (v := ?_) rfl (by kernel_rfl) (by kernel_rfl) (by kernel_rfl) (fun _ _ _ h => h) (Or.inl ⟨by rfl, ?_⟩) (by assumption) ?_
      rotate_left
      · (intro w hSw; obtain ⟨q0, q1⟩ := hSw; go_simp; (try with_reducible rfl))
      (try simp only [List.getElem_toArray, List.getElem_cons_zero, List.getElem_cons_succ, Act.put, List.setIfInBounds_toArray, List.set_cons_zero, List.set_cons_succ])
      refine wpAnyH_take (i := 2) (v := ?_) rfl (by kernel_rfl) (by kernel_rfl) (by kernel_rfl) (fun _ _ _ h => h) (Or.inl ⟨by rfl, ?_⟩) (by assumption) ?_
      rotate_left
      · (intro w hSw; obtain ⟨q0, q1⟩ := hSw; go_simp; (try with_reducible rfl))
      (try simp only [List.getElem_toArray, List.getElem_cons_zero, List.getElem_cons_succ, Act.put, List.setIfInBounds_toArray, List.set_cons_zero, List.set_cons_succ])
      refine wpAnyH_take (i := 3) (v := ?_) rfl (by kernel_rfl) (by kernel_rfl) (by kernel_rfl) (fun _ _ _ h => h) (Or.inl ⟨by rfl, ?_⟩) (by assumption) ?_
      rotate_left
      · (intro w hSw; obtain ⟨q0, q1⟩ := hSw; go_simp; (try with_reducible rfl))
      (try simp only [List.getElem_toArray, List.getElem_cons_zero, List.getElem_cons_succ, Act.put, List.setIfInBounds_toArray, List.set_cons_zero, List.set_cons_succ])
      refine wpAnyH_take (i := 4) (v := ?_) rfl (by kernel_rfl) (by kernel_rfl) (by kernel_rfl) (fun _ _ _ h => h) (Or.inl ⟨by rfl, ?_⟩) (by assumption) ?_
      rotate_left
      · (intro w hSw; obtain ⟨q0, q1⟩ := hSw; go_simp; (try with_reducible rfl))
      (try simp only [List.getElem_toArray, List.getElem_cons_zero, List.getElem_cons_succ, Act.put, List.setIfInBounds_toArray, List.set_cons_zero, List.set_cons_succ])
      refine wpAnyH_take (i := 5) (v := ?_) rfl (by kernel_rfl) (by kernel_rfl) (by kernel_rfl) (fun _ _ _ h => h) (Or.inl ⟨by rfl, ?_⟩) (by assumption) ?_
      rotate_left
      · (intro w hSw; obtain ⟨q0, q1⟩ := hSw; go_simp; (try with_reducible rfl))
      (try simp only [List.getElem_toArray, List.getElem_cons_zero, List.getElem_cons_succ, Act.put, List.setIfInBounds_toArray, List.set_cons_zero, List.set_cons_succ])
      refine wpAnyH_take (i := 7) (v := ?_) rfl (by kernel_rfl) (by kernel_rfl) (by kernel_rfl) (fun _ _ _ h => h) (Or.inl ⟨by rfl, ?_⟩) (by assumption) ?_
      rotate_left
      · (intro w hSw; obtain ⟨q0, q1⟩ := hSw; go_simp; (try with_reducible rfl))
      (try simp only [List.getElem_toArray, List.getElem_cons_zero, List.getElem_cons_succ, Act.put, List.setIfInBounds_toArray, List.set_cons_zero, List.set_cons_succ])
      refine wpAnyH_take (i := 8) (v := ?_) rfl (by kernel_rfl) (by kernel_rfl) (by kernel_rfl) (fun _ _ _ h => h) (Or.inl ⟨by rfl, ?_⟩) (by assumption) ?_
      rotate_left
      · (intro w hSw; obtain ⟨q0, q1⟩ := hSw; go_simp; (try with_reducible rfl))
      (try simp only [List.getElem_toArray, List.getElem_cons_zero, List.getElem_cons_succ, Act.put, List.setIfInBounds_toArray, List.set_cons_zero, List.set_cons_succ])
      refine wpAnyH_take (i := 9) (v := ?_) rfl (by kernel_rfl) (by kernel_rfl) (by kernel_rfl) (fun _ _ _ h => h) (Or.inl ⟨by rfl, ?_⟩) (by assumption) ?_
      rotate_left
      · (intro w hSw; obtain ⟨q0, q1⟩ := hSw; go_simp; (try with_reducible rfl))
      (try simp only [List.getElem_toArray, List.getElem_cons_zero, List.getElem_cons_succ, Act.put, List.setIfInBounds_toArray, List.set_cons_zero, List.set_cons_succ])
      refine wpAnyH_take (i := 10) (v := ?_) rfl (by kernel_rfl) (by kernel_rfl) (by kernel_rfl) (fun _ _ _ h => h) (Or.inl ⟨by rfl, ?_⟩) (by assumption) ?_
      rotate_left
      · (intro w hSw; obtain ⟨q0, q1⟩ := hSw; go_simp; (try with_reducible rfl))
      (try simp only [List.getElem_toArray, List.getElem_cons_zero, List.getElem_cons_succ, Act.put, List.setIfInBounds_toArray, List.set_cons_zero, List.set_cons_succ])
      refine wpAnyH_take (i := 11) (v := ?_) rfl (by kernel_rfl) (by kernel_rfl) (by kernel_rfl) (fun _ _ _ h => h) (Or.inl ⟨by rfl, ?_⟩) (by assumption) ?_
      rotate_left
      · (intro w hSw; obtain ⟨q0, q1⟩ := hSw; go_simp; (try with_reducible rfl))
      (try simp only [List.getElem_toArray, List.getElem_cons_zero, List.getElem_cons_succ, Act.put, List.setIfInBounds_toArray, List.set_cons_zero, List.set_cons_succ])
      refine wpAnyH_take (i := 12) (v := ?_) rfl (by kernel_rfl) (by kernel_rfl) (by kernel_rfl) (fun _ _ _ h => h) (Or.inl ⟨by rfl, ?_⟩) (by assumption) ?_
      rotate_left
      · (intro w hSw; obtain ⟨q0, q1⟩ := hSw; go_simp; (try with_reducible rfl))
      (try simp only [List.getElem_toArray, List.getElem_cons_zero, List.getElem_cons_succ, Act.put, List.setIfInBounds_toArray, List.set_cons_zero, List.set_cons_succ])
      refine wpAnyH_ready (rs := [6, 14, 15]) (by kernel_rfl) (by simp) ?_
      refine AllReadyH.cons rfl (fun K hK => ?_) (AllReadyH.cons rfl (fun K hK => ?_) (AllReadyH.cons rfl (fun K hK => ?_) AllReadyH.nil))
      · go_simp
        refine (HA.out _ hbz).mono ?_
        rintro ee v1 ⟨rfl, hb1, hs1⟩
        (try go_wp2_with fail)
        refine hK.out _ _ (KS.out _ hb1) (fun hHeld => ?_)
        clear hK K
        (try simp only [List.getElem_toArray, List.getElem_cons_zero, List.getElem_cons_succ, Act.put, List.setIfInBounds_toArray, List.set_cons_zero, List.set_cons_succ])
        refine wpAnyH_ready (rs := [13, 14, 15]) (by kernel_rfl) (by simp) ?_
        refine AllReadyH.cons rfl (fun K hK => ?_) (AllReadyH.cons rfl (fun K hK => ?_) (AllReadyH.cons rfl (fun K hK => ?_) AllReadyH.nil))
        · go_simp
          refine (HB.out _ hb1).mono ?_
          rintro ee v2 ⟨rfl, hb2, hs2⟩
          (try go_wp2_with fail)
          refine hK.out _ _ (KS.out _ hb2) (fun hHeld => ?_)
          clear hK K
          (try simp only [List.getElem_toArray, List.getElem_cons_zero, List.getElem_cons_succ, Act.put, List.setIfInBounds_toArray, List.set_cons_zero, List.set_cons_succ])
          refine wpAnyH_ready (rs := [14, 15]) (by kernel_rfl) (by simp) ?_
          refine AllReadyH.cons rfl (fun K hK => ?_) (AllReadyH.cons rfl (fun K hK => ?_) AllReadyH.nil)
          · go_simp
            have KP := Blk.new v2 25 #[.int .i64 0, .int .i64 0, .bool false]
            have hb3 : Below w1.heap.size w1 (v2.alloc (.cells #[.int .i64 0, .int .i64 0, .bool false] 25)) := hb2.alloc hb2.size _
            have GP : w1.heap.size ≤ v2.heap.size := hb2.size
            refine hK.out _ _ (KS.out _ hb3) (fun hHeld => ?_)
            clear hK K
            (try simp only [List.getElem_toArray, List.getElem_cons_zero, List.getElem_cons_succ, Act.put, List.setIfInBounds_toArray, List.set_cons_zero, List.set_cons_succ])
            generalize hg3 : v2.heap.size = gP at *
            generalize v2.alloc (.cells #[.int .i64 0, .int .i64 0, .bool false] 25) = v3 at *
            clear hg3
            refine wpAnyH_ready (rs := [15]) (by kernel_rfl) (by simp) ?_
            refine AllReadyH.cons rfl (fun K hK => ?_) AllReadyH.nil
            go_simp
            have KQ := Blk.new v3 27 #[.int .i64 0, .int .i64 0, .bool false]
            have hb4 : Below w1.heap.size w1 (v3.alloc (.cells #[.int .i64 0, .int .i64 0, .bool false] 27)) := hb3.alloc hb3.size _
            have GQ : w1.heap.size ≤ v3.heap.size := hb3.size
            have hne := KP.lt
            replace KP := KP.alloc (.cells #[.int .i64 0, .int .i64 0, .bool false] 27)
            refine hK.out _ _ (KS.out _ hb4) (fun hHeld => ?_)
            clear hK K
            (try simp only [List.getElem_toArray, List.getElem_cons_zero, List.getElem_cons_succ, Act.put, List.setIfInBounds_toArray, List.set_cons_zero, List.set_cons_succ])
            generalize hg4 : v3.heap.size = gQ at *
            generalize v3.alloc (.cells #[.int .i64 0, .int .i64 0, .bool false] 27) = v4 at *
            clear hg4
            obtain ⟨a0, a1, a2⟩ := ent_cells KP
            have f0 := KP.frozen 0
            have f1 := KP.frozen 1
            have f2 := KP.frozen 2
            have KP2 : Blk (((v4.setCell ⟨gP, 0, none⟩ (.int .i64 F)).setCell ⟨gP, 1, none⟩ (.int .i64 T)).setCell ⟨gP, 2, none⟩ (.bool B)) gP 25 #[.int .i64 F, .int .i64 T, .bool B] := rng_many KP (.int .i64 F) (.int .i64 T) (.bool B)
            have KQ2 : Blk (((v4.setCell ⟨gP, 0, none⟩ (.int .i64 F)).setCell ⟨gP, 1, none⟩ (.int .i64 T)).setCell ⟨gP, 2, none⟩ (.bool B)) gQ 27 #[.int .i64 0, .int .i64 0, .bool false] := setMany_far KQ (show gQ ≠ gP by omega) [(0, .int .i64 F), (1, .int .i64 T), (2, .bool B)]
            have hc2 : Below w1.heap.size w1 (((v4.setCell ⟨gP, 0, none⟩ (.int .i64 F)).setCell ⟨gP, 1, none⟩ (.int .i64 T)).setCell ⟨gP, 2, none⟩ (.bool B)) := setMany_below hb4 (show w1.heap.size ≤ gP by omega) [(0, .int .i64 F), (1, .int .i64 T), (2, .bool B)]
            have ks2 : (((v4.setCell ⟨gP, 0, none⟩ (.int .i64 F)).setCell ⟨gP, 1, none⟩ (.int .i64 T)).setCell ⟨gP, 2, none⟩ (.bool B)).cell? ⟨w.heap.size, 0, none⟩ = some (.int .i64 p) ∧ (((v4.setCell ⟨gP, 0, none⟩ (.int .i64 F)).setCell ⟨gP, 1, none⟩ (.int .i64 T)).setCell ⟨gP, 2, none⟩ (.bool B)).cell? ⟨w.heap.size, 1, none⟩ = some (.int .i64 q) := at_many (KS.out _ hb4) (show gP ≠ w.heap.size by omega) [(0, .int .i64 F), (1, .int .i64 T), (2, .bool B)]
            refine wpAnyH_ready (rs := [16]) (by kernel_rfl) (by simp) ?_
            refine AllReadyH.cons rfl (fun K hK => ?_) AllReadyH.nil
            go_simp
            refine hK.out _ _ (show _ from ks2) (fun hHeld => ?_)
            clear hK K
            (try simp only [List.getElem_toArray, List.getElem_cons_zero, List.getElem_cons_succ, Act.put, List.setIfInBounds_toArray, List.set_cons_zero, List.set_cons_succ])
            generalize ((v4.setCell ⟨gP, 0, none⟩ (.int .i64 F)).setCell ⟨gP, 1, none⟩ (.int .i64 T)).setCell ⟨gP, 2, none⟩ (.bool B) = wz at *
            obtain ⟨b0, b1, b2⟩ := ent_cells KQ2
            have e0 := KQ2.frozen 0
            have e1 := KQ2.frozen 1
            have e2 := KQ2.frozen 2
            have KQ3 := rng_many KQ2 (.int .i64 F) (.int .i64 T) (.bool B)
            have KP3 := setMany_far KP2 (show gP ≠ gQ by omega) [(0, .int .i64 F), (1, .int .i64 T), (2, .bool B)]
            have hc3 := setMany_below hc2 (show w1.heap.size ≤ gQ by omega) [(0, .int .i64 F), (1, .int .i64 T), (2, .bool B)]
            have ks3 := at_many ks2 (show gQ ≠ w.heap.size by omega) [(0, .int .i64 F), (1, .int .i64 T), (2, .bool B)]
            refine wpAnyH_ready (rs := [17]) (by kernel_rfl) (by simp) ?_
            refine AllReadyH.cons rfl (fun K hK => ?_) AllReadyH.nil
            go_simp
            refine hK.out _ _ (show _ from ks3) (fun hHeld => ?_)
            clear hK K
            (try simp only [List.getElem_toArray, List.getElem_cons_zero, List.getElem_cons_succ, Act.put, List.setIfInBounds_toArray, List.set_cons_zero, List.set_cons_succ])
            refine wpAnyH_done (by kernel_rfl) ?_ _
            go_wp2_with fail
            go_meet
            exact ⟨_, _, rfl, rfl, KP3, KQ3, hc3⟩
          · go_simp
            have KQ := Blk.new v2 27 #[.int .i64 0, .int .i64 0, .bool false]
            have hb5 : Below w1.heap.size w1 (v2.alloc (.cells #[.int .i64 0, .int .i64 0, .bool false] 27)) := hb2.alloc hb2.size _
            have GQ : w1.heap.size ≤ v2.heap.size := hb2.size
            refine hK.out _ _ (KS.out _ hb5) (fun hHeld => ?_)
            clear hK K
            (try simp only [List.getElem_toArray, List.getElem_cons_zero, List.getElem_cons_succ, Act.put, List.setIfInBounds_toArray, List.set_cons_zero, List.set_cons_succ])
            generalize hg5 : v2.heap.size = gQ at *
            generalize v2.alloc (.cells #[.int .i64 0, .int .i64 0, .bool false] 27) = v5 at *
            clear hg5
            refine wpAnyH_ready (rs := [14]) (by kernel_rfl) (by simp) ?_
            refine AllReadyH.cons rfl (fun K hK => ?_) AllReadyH.nil
            go_simp
            have KP := Blk.new v5 25 #[.int .i64 0, .int .i64 0, .bool false]
            have hb6 : Below w1.heap.size w1 (v5.alloc (.cells #[.int .i64 0, .int .i64 0, .bool false] 25)) := hb5.alloc hb5.size _
            have GP : w1.heap.size ≤ v5.heap.size := hb5.size
            have hne := KQ.lt
            replace KQ := KQ.alloc (.cells #[.int .i64 0, .int .i64 0, .bool false] 25)
            refine hK.out _ _ (KS.out _ hb6) (fun hHeld => ?_)
            clear hK K
            (try simp only [List.getElem_toArray, List.getElem_cons_zero, List.getElem_cons_succ, Act.put, List.setIfInBounds_toArray, List.set_cons_zero, List.set_cons_succ])
            generalize hg6 : v5.heap.size = gP at *
            generalize v5.alloc (.cells #[.int .i64 0, .int .i64 0, .bool false] 25) = v6 at *
            clear hg6
            obtain ⟨a0, a1, a2⟩ := ent_cells KP
            have f0 := KP.frozen 0
            have f1 := KP.frozen 1
            have f2 := KP.frozen 2
            have KP2 : Blk (((v6.setCell ⟨gP, 0, none⟩ (.int .i64 F)).setCell ⟨gP, 1, none⟩ (.int .i64 T)).setCell ⟨gP, 2, none⟩ (.bool B)) gP 25 #[.int .i64 F, .int .i64 T, .bool B] := rng_many KP (.int .i64 F) (.int .i64 T) (.bool B)
            have KQ2 : Blk (((v6.setCell ⟨gP, 0, none⟩ (.int .i64 F)).setCell ⟨gP, 1, none⟩ (.int .i64 T)).setCell ⟨gP, 2, none⟩ (.bool B)) gQ 27 #[.int .i64 0, .int .i64 0, .bool false] := setMany_far KQ (show gQ ≠ gP by omega) [(0, .int .i64 F), (1, .int .i64 T), (2, .bool B)]
            have hc2 : Below w1.heap.size w1 (((v6.setCell ⟨gP, 0, none⟩ (.int .i64 F)).setCell ⟨gP, 1, none⟩ (.int .i64 T)).setCell ⟨gP, 2, none⟩ (.bool B)) := setMany_below hb6 (show w1.heap.size ≤ gP by omega) [(0, .int .i64 F), (1, .int .i64 T), (2, .bool B)]
            have ks2 : (((v6.setCell ⟨gP, 0, none⟩ (.int .i64 F)).setCell ⟨gP, 1, none⟩ (.int .i64 T)).setCell ⟨gP, 2, none⟩ (.bool B)).cell? ⟨w.heap.size, 0, none⟩ = some (.int .i64 p) ∧ (((v6.setCell ⟨gP, 0, none⟩ (.int .i64 F)).setCell ⟨gP, 1, none⟩ (.int .i64 T)).setCell ⟨gP, 2, none⟩ (.bool B)).cell? ⟨w.heap.size, 1, none⟩ = some (.int .i64 q) := at_many (KS.out _ hb6) (show gP ≠ w.heap.size by omega) [(0, .int .i64 F), (1, .int .i64 T), (2, .bool B)]
            refine wpAnyH_ready (rs := [16]) (by kernel_rfl) (by simp) ?_
            refine AllReadyH.cons rfl (fun K hK => ?_) AllReadyH.nil
            go_simp
            refine hK.out _ _ (show _ from ks2) (fun hHeld => ?_)
            clear hK K
            (try simp only [List.getElem_toArray, List.getElem_cons_zero, List.getElem_cons_succ, Act.put, List.setIfInBounds_toArray, List.set_cons_zero, List.set_cons_succ])
            generalize ((v6.setCell ⟨gP, 0, none⟩ (.int .i64 F)).setCell ⟨gP, 1, none⟩ (.int .i64 T)).setCell ⟨gP, 2, none⟩ (.bool B) = wz at *
            obtain ⟨b0, b1, b2⟩ := ent_cells KQ2
            have e0 := KQ2.frozen 0
            have e1 := KQ2.frozen 1
            have e2 := KQ2.frozen 2
            have KQ3 := rng_many KQ2 (.int .i64 F) (.int .i64 T) (.bool B)
            have KP3 := setMany_far KP2 (show gP ≠ gQ by omega) [(0, .int .i64 F), (1, .int .i64 T), (2, .bool B)]
            have hc3 := setMany_below hc2 (show w1.heap.size ≤ gQ by omega) [(0, .int .i64 F), (1, .int .i64 T), (2, .bool B)]
            have ks3 := at_many ks2 (show gQ ≠ w.heap.size by omega) [(0, .int .i64 F), (1, .int .i64 T), (2, .bool B)]
            refine wpAnyH_ready (rs := [17]) (by kernel_rfl) (by simp) ?_
            refine AllReadyH.cons rfl (fun K hK => ?_) AllReadyH.nil
            go_simp
            refine hK.out _ _ (show _ from ks3) (fun hHeld => ?_)
            clear hK K
            (try simp only [List.getElem_toArray, List.getElem_cons_zero, List.getElem_cons_succ, Act.put, List.setIfInBounds_toArray, List.set_cons_zero, List.set_cons_succ])
            refine wpAnyH_done (by kernel_rfl) ?_ _
            go_wp2_with fail
            go_meet
            exact ⟨_, _, rfl, rfl, KP3, KQ3, hc3⟩
        · go_simp
          have KP := Blk.new v1 25 #[.int .i64 0, .int .i64 0, .bool false]
          have hb7 : Below w1.heap.size w1 (v1.alloc (.cells #[.int .i64 0, .int .i64 0, .bool false] 25)) := hb1.alloc hb1.size _
          have GP : w1.heap.size ≤ v1.heap.size := hb1.size
          refine hK.out _ _ (KS.out _ hb7) (fun hHeld => ?_)
          clear hK K
          (try simp only [List.getElem_toArray, List.getElem_cons_zero, List.getElem_cons_succ, Act.put, List.setIfInBounds_toArray, List.set_cons_zero, List.set_cons_succ])
          generalize hg7 : v1.heap.size = gP at *
          generalize v1.alloc (.cells #[.int .i64 0, .int .i64 0, .bool false] 25) = v7 at *
          clear hg7
          refine wpAnyH_ready (rs := [13, 15]) (by kernel_rfl) (by simp) ?_
          refine AllReadyH.cons rfl (fun K hK => ?_) (AllReadyH.cons rfl (fun K hK => ?_) AllReadyH.nil)
          · go_simp
            refine (HB.out _ hb7).mono ?_
            rintro ee v8 ⟨rfl, hb8, hs8⟩
            replace KP := KP.below hs8 KP.lt
            (try go_wp2_with fail)
            refine hK.out _ _ (KS.out _ hb8) (fun hHeld => ?_)
            clear hK K
            (try simp only [List.getElem_toArray, List.getElem_cons_zero, List.getElem_cons_succ, Act.put, List.setIfInBounds_toArray, List.set_cons_zero, List.set_cons_succ])
            refine wpAnyH_ready (rs := [15]) (by kernel_rfl) (by simp) ?_
            refine AllReadyH.cons rfl (fun K hK => ?_) AllReadyH.nil
            go_simp
            have KQ := Blk.new v8 27 #[.int .i64 0, .int .i64 0, .bool false]
            have hb9 : Below w1.heap.size w1 (v8.alloc (.cells #[.int .i64 0, .int .i64 0, .bool false] 27)) := hb8.alloc hb8.size _
            have GQ : w1.heap.size ≤ v8.heap.size := hb8.size
            have hne := KP.lt
            replace KP := KP.alloc (.cells #[.int .i64 0, .int .i64 0, .bool false] 27)
            refine hK.out _ _ (KS.out _ hb9) (fun hHeld => ?_)
            clear hK K
            (try simp only [List.getElem_toArray, List.getElem_cons_zero, List.getElem_cons_succ, Act.put, List.setIfInBounds_toArray, List.set_cons_zero, List.set_cons_succ])
            generalize hg9 : v8.heap.size = gQ at *
            generalize v8.alloc (.cells #[.int .i64 0, .int .i64 0, .bool false] 27) = v9 at *
            clear hg9
            obtain ⟨a0, a1, a2⟩ := ent_cells KP
            have f0 := KP.frozen 0
            have f1 := KP.frozen 1
            have f2 := KP.frozen 2
            have KP2 : Blk (((v9.setCell ⟨gP, 0, none⟩ (.int .i64 F)).setCell ⟨gP, 1, none⟩ (.int .i64 T)).setCell ⟨gP, 2, none⟩ (.bool B)) gP 25 #[.int .i64 F, .int .i64 T, .bool B] := rng_many KP (.int .i64 F) (.int .i64 T) (.bool B)
            have KQ2 : Blk (((v9.setCell ⟨gP, 0, none⟩ (.int .i64 F)).setCell ⟨gP, 1, none⟩ (.int .i64 T)).setCell ⟨gP, 2, none⟩ (.bool B)) gQ 27 #[.int .i64 0, .int .i64 0, .bool false] := setMany_far KQ (show gQ ≠ gP by omega) [(0, .int .i64 F), (1, .int .i64 T), (2, .bool B)]
            have hc2 : Below w1.heap.size w1 (((v9.setCell ⟨gP, 0, none⟩ (.int .i64 F)).setCell ⟨gP, 1, none⟩ (.int .i64 T)).setCell ⟨gP, 2, none⟩ (.bool B)) := setMany_below hb9 (show w1.heap.size ≤ gP by omega) [(0, .int .i64 F), (1, .int .i64 T), (2, .bool B)]
            have ks2 : (((v9.setCell ⟨gP, 0, none⟩ (.int .i64 F)).setCell ⟨gP, 1, none⟩ (.int .i64 T)).setCell ⟨gP, 2, none⟩ (.bool B)).cell? ⟨w.heap.size, 0, none⟩ = some (.int .i64 p) ∧ (((v9.setCell ⟨gP, 0, none⟩ (.int .i64 F)).setCell ⟨gP, 1, none⟩ (.int .i64 T)).setCell ⟨gP, 2, none⟩ (.bool B)).cell? ⟨w.heap.size, 1, none⟩ = some (.int .i64 q) := at_many (KS.out _ hb9) (show gP ≠ w.heap.size by omega) [(0, .int .i64 F), (1, .int .i64 T), (2, .bool B)]
            refine wpAnyH_ready (rs := [16]) (by kernel_rfl) (by simp) ?_
            refine AllReadyH.cons rfl (fun K hK => ?_) AllReadyH.nil
            go_simp
            refine hK.out _ _ (show _ from ks2) (fun hHeld => ?_)
            clear hK K
            (try simp only [List.getElem_toArray, List.getElem_cons_zero, List.getElem_cons_succ, Act.put, List.setIfInBounds_toArray, List.set_cons_zero, List.set_cons_succ])
            generalize ((v9.setCell ⟨gP, 0, none⟩ (.int .i64 F)).setCell ⟨gP, 1, none⟩ (.int .i64 T)).setCell ⟨gP, 2, none⟩ (.bool B) = wz at *
            obtain ⟨b0, b1, b2⟩ := ent_cells KQ2
            have e0 := KQ2.frozen 0
            have e1 := KQ2.frozen 1
            have e2 := KQ2.frozen 2
            have KQ3 := rng_many KQ2 (.int .i64 F) (.int .i64 T) (.bool B)
            have KP3 := setMany_far KP2 (show gP ≠ gQ by omega) [(0, .int .i64 F), (1, .int .i64 T), (2, .bool B)]
            have hc3 := setMany_below hc2 (show w1.heap.size ≤ gQ by omega) [(0, .int .i64 F), (1, .int .i64 T), (2, .bool B)]
            have ks3 := at_many ks2 (show gQ ≠ w.heap.size by omega) [(0, .int .i64 F), (1, .int .i64 T), (2, .bool B)]
            refine wpAnyH_ready (rs := [17]) (by kernel_rfl) (by simp) ?_
            refine AllReadyH.cons rfl (fun K hK => ?_) AllReadyH.nil
            go_simp
            refine hK.out _ _ (show _ from ks3) (fun hHeld => ?_)
            clear hK K
            (try simp only [List.getElem_toArray, List.getElem_cons_zero, List.getElem_cons_succ, Act.put, List.setIfInBounds_toArray, List.set_cons_zero, List.set_cons_succ])
            refine wpAnyH_done (by kernel_rfl) ?_ _
            go_wp2_with fail
            go_meet
            exact ⟨_, _, rfl, rfl, KP3, KQ3, hc3⟩
          · go_simp
            have KQ := Blk.new v7 27 #[.int .i64 0, .int .i64 0, .bool false]
            have hb10 : Below w1.heap.size w1 (v7.alloc (.cells #[.int .i64 0, .int .i64 0, .bool false] 27)) := hb7.alloc hb7.size _
            have GQ : w1.heap.size ≤ v7.heap.size := hb7.size
            have hne := KP.lt
            replace KP := KP.alloc (.cells #[.int .i64 0, .int .i64 0, .bool false] 27)
            refine hK.out _ _ (KS.out _ hb10) (fun hHeld => ?_)
            clear hK K
            (try simp only [List.getElem_toArray, List.getElem_cons_zero, List.getElem_cons_succ, Act.put, List.setIfInBounds_toArray, List.set_cons_zero, List.set_cons_succ])
            generalize hg10 : v7.heap.size = gQ at *
            generalize v7.alloc (.cells #[.int .i64 0, .int .i64 0, .bool false] 27) = v10 at *
            clear hg10
            refine wpAnyH_ready (rs := [13]) (by kernel_rfl) (by simp) ?_
            refine AllReadyH.cons rfl (fun K hK => ?_) AllReadyH.nil
            go_simp
            refine (HB.out _ hb10).mono ?_
            rintro ee v11 ⟨rfl, hb11, hs11⟩
            replace KP := KP.below hs11 KP.lt
            replace KQ := KQ.below hs11 KQ.lt
            (try go_wp2_with fail)
            refine hK.out _ _ (KS.out _ hb11) (fun hHeld => ?_)
            clear hK K
            (try simp only [List.getElem_toArray, List.getElem_cons_zero, List.getElem_cons_succ, Act.put, List.setIfInBounds_toArray, List.set_cons_zero, List.set_cons_succ])
            obtain ⟨a0, a1, a2⟩ := ent_cells KP
            have f0 := KP.frozen 0
            have f1 := KP.frozen 1
            have f2 := KP.frozen 2
            have KP2 : Blk (((v11.setCell ⟨gP, 0, none⟩ (.int .i64 F)).setCell ⟨gP, 1, none⟩ (.int .i64 T)).setCell ⟨gP, 2, none⟩ (.bool B)) gP 25 #[.int .i64 F, .int .i64 T, .bool B] := rng_many KP (.int .i64 F) (.int .i64 T) (.bool B)
            have KQ2 : Blk (((v11.setCell ⟨gP, 0, none⟩ (.int .i64 F)).setCell ⟨gP, 1, none⟩ (.int .i64 T)).setCell ⟨gP, 2, none⟩ (.bool B)) gQ 27 #[.int .i64 0, .int .i64 0, .bool false] := setMany_far KQ (show gQ ≠ gP by omega) [(0, .int .i64 F), (1, .int .i64 T), (2, .bool B)]
            have hc2 : Below w1.heap.size w1 (((v11.setCell ⟨gP, 0, none⟩ (.int .i64 F)).setCell ⟨gP, 1, none⟩ (.int .i64 T)).setCell ⟨gP, 2, none⟩ (.bool B)) := setMany_below hb11 (show w1.heap.size ≤ gP by omega) [(0, .int .i64 F), (1, .int .i64 T), (2, .bool B)]
            have ks2 : (((v11.setCell ⟨gP, 0, none⟩ (.int .i64 F)).setCell ⟨gP, 1, none⟩ (.int .i64 T)).setCell ⟨gP, 2, none⟩ (.bool B)).cell? ⟨w.heap.size, 0, none⟩ = some (.int .i64 p) ∧ (((v11.setCell ⟨gP, 0, none⟩ (.int .i64 F)).setCell ⟨gP, 1, none⟩ (.int .i64 T)).setCell ⟨gP, 2, none⟩ (.bool B)).cell? ⟨w.heap.size, 1, none⟩ = some (.int .i64 q) := at_many (KS.out _ hb11) (show gP ≠ w.heap.size by omega) [(0, .int .i64 F), (1, .int .i64 T), (2, .bool B)]
            refine wpAnyH_ready (rs := [16]) (by kernel_rfl) (by simp) ?_
            refine AllReadyH.cons rfl (fun K hK => ?_) AllReadyH.nil
            go_simp
            refine hK.out _ _ (show _ from ks2) (fun hHeld => ?_)
            clear hK K
            (try simp only [List.getElem_toArray, List.getElem_cons_zero, List.getElem_cons_succ, Act.put, List.setIfInBounds_toArray, List.set_cons_zero, List.set_cons_succ])
            generalize ((v11.setCell ⟨gP, 0, none⟩ (.int .i64 F)).setCell ⟨gP, 1, none⟩ (.int .i64 T)).setCell ⟨gP, 2, none⟩ (.bool B) = wz at *
            obtain ⟨b0, b1, b2⟩ := ent_cells KQ2
            have e0 := KQ2.frozen 0
            have e1 := KQ2.frozen 1
            have e2 := KQ2.frozen 2
            have KQ3 := rng_many KQ2 (.int .i64 F) (.int .i64 T) (.bool B)
            have KP3 := setMany_far KP2 (show gP ≠ gQ by omega) [(0, .int .i64 F), (1, .int .i64 T), (2, .bool B)]
            have hc3 := setMany_below hc2 (show w1.heap.size ≤ gQ by omega) [(0, .int .i64 F), (1, .int .i64 T), (2, .bool B)]
            have ks3 := at_many ks2 (show gQ ≠ w.heap.size by omega) [(0, .int .i64 F), (1, .int .i64 T), (2, .bool B)]
            refine wpAnyH_ready (rs := [17]) (by kernel_rfl) (by simp) ?_
            refine AllReadyH.cons rfl (fun K hK => ?_) AllReadyH.nil
            go_simp
            refine hK.out _ _ (show _ from ks3) (fun hHeld => ?_)
            clear hK K
            (try simp only [List.getElem_toArray, List.getElem_cons_zero, List.getElem_cons_succ, Act.put, List.setIfInBounds_toArray, List.set_cons_zero, List.set_cons_succ])
            refine wpAnyH_done (by kernel_rfl) ?_ _
            go_wp2_with fail
            go_meet
            exact ⟨_, _, rfl, rfl, KP3, KQ3, hc3⟩
        · go_simp
          have KQ := Blk.new v1 27 #[.int .i64 0, .int .i64 0, .bool false]
          have hb12 : Below w1.heap.size w1 (v1.alloc (.cells #[.int .i64 0, .int .i64 0, .bool false] 27)) := hb1.alloc hb1.size _
          have GQ : w1.heap.size ≤ v1.heap.size := hb1.size
          refine hK.out _ _ (KS.out _ hb12) (fun hHeld => ?_)
          clear hK K
          (try simp only [List.getElem_toArray, List.getElem_cons_zero, List.getElem_cons_succ, Act.put, List.setIfInBounds_toArray, List.set_cons_zero, List.set_cons_succ])
          generalize hg12 : v1.heap.size = gQ at *
          generalize v1.alloc (.cells #[.int .i64 0, .int .i64 0, .bool false] 27) = v12 at *
          clear hg12
          refine wpAnyH_ready (rs := [13, 14]) (by kernel_rfl) (by simp) ?_
          refine AllReadyH.cons rfl (fun K hK => ?_) (AllReadyH.cons rfl (fun K hK => ?_) AllReadyH.nil)
          · go_simp
            refine (HB.out _ hb12).mono ?_
            rintro ee v13 ⟨rfl, hb13, hs13⟩
            replace KQ := KQ.below hs13 KQ.lt
            (try go_wp2_with fail)
            refine hK.out _ _ (KS.out _ hb13) (fun hHeld => ?_)
            clear hK K
            (try simp only [List.getElem_toArray, List.getElem_cons_zero, List.getElem_cons_succ, Act.put, List.setIfInBounds_toArray, List.set_cons_zero, List.set_cons_succ])
            refine wpAnyH_ready (rs := [14]) (by kernel_rfl) (by simp) ?_
            refine AllReadyH.cons rfl (fun K hK => ?_) AllReadyH.nil
            go_simp
            have KP := Blk.new v13 25 #[.int .i64 0, .int .i64 0, .bool false]
            have hb14 : Below w1.heap.size w1 (v13.alloc (.cells #[.int .i64 0, .int .i64 0, .bool false] 25)) := hb13.alloc hb13.size _
            have GP : w1.heap.size ≤ v13.heap.size := hb13.size
            have hne := KQ.lt
            replace KQ := KQ.alloc (.cells #[.int .i64 0, .int .i64 0, .bool false] 25)
            refine hK.out _ _ (KS.out _ hb14) (fun hHeld => ?_)
            clear hK K
            (try simp only [List.getElem_toArray, List.getElem_cons_zero, List.getElem_cons_succ, Act.put, List.setIfInBounds_toArray, List.set_cons_zero, List.set_cons_succ])
            generalize hg14 : v13.heap.size = gP at *
            generalize v13.alloc (.cells #[.int .i64 0, .int .i64 0, .bool false] 25) = v14 at *
            clear hg14
            obtain ⟨a0, a1, a2⟩ := ent_cells KP
            have f0 := KP.frozen 0
            have f1 := KP.frozen 1
            have f2 := KP.frozen 2
            have KP2 : Blk (((v14.setCell ⟨gP, 0, none⟩ (.int .i64 F)).setCell ⟨gP, 1, none⟩ (.int .i64 T)).setCell ⟨gP, 2, none⟩ (.bool B)) gP 25 #[.int .i64 F, .int .i64 T, .bool B] := rng_many KP (.int .i64 F) (.int .i64 T) (.bool B)
            have KQ2 : Blk (((v14.setCell ⟨gP, 0, none⟩ (.int .i64 F)).setCell ⟨gP, 1, none⟩ (.int .i64 T)).setCell ⟨gP, 2, none⟩ (.bool B)) gQ 27 #[.int .i64 0, .int .i64 0, .bool false] := setMany_far KQ (show gQ ≠ gP by omega) [(0, .int .i64 F), (1, .int .i64 T), (2, .bool B)]
            have hc2 : Below w1.heap.size w1 (((v14.setCell ⟨gP, 0, none⟩ (.int .i64 F)).setCell ⟨gP, 1, none⟩ (.int .i64 T)).setCell ⟨gP, 2, none⟩ (.bool B)) := setMany_below hb14 (show w1.heap.size ≤ gP by omega) [(0, .int .i64 F), (1, .int .i64 T), (2, .bool B)]
            have ks2 : (((v14.setCell ⟨gP, 0, none⟩ (.int .i64 F)).setCell ⟨gP, 1, none⟩ (.int .i64 T)).setCell ⟨gP, 2, none⟩ (.bool B)).cell? ⟨w.heap.size, 0, none⟩ = some (.int .i64 p) ∧ (((v14.setCell ⟨gP, 0, none⟩ (.int .i64 F)).setCell ⟨gP, 1, none⟩ (.int .i64 T)).setCell ⟨gP, 2, none⟩ (.bool B)).cell? ⟨w.heap.size, 1, none⟩ = some (.int .i64 q) := at_many (KS.out _ hb14) (show gP ≠ w.heap.size by omega) [(0, .int .i64 F), (1, .int .i64 T), (2, .bool B)]
            refine wpAnyH_ready (rs := [16]) (by kernel_rfl) (by simp) ?_
            refine AllReadyH.cons rfl (fun K hK => ?_) AllReadyH.nil
            go_simp
            refine hK.out _ _ (show _ from ks2) (fun hHeld => ?_)
            clear hK K
            (try simp only [List.getElem_toArray, List.getElem_cons_zero, List.getElem_cons_succ, Act.put, List.setIfInBounds_toArray, List.set_cons_zero, List.set_cons_succ])
            generalize ((v14.setCell ⟨gP, 0, none⟩ (.int .i64 F)).setCell ⟨gP, 1, none⟩ (.int .i64 T)).setCell ⟨gP, 2, none⟩ (.bool B) = wz at *
            obtain ⟨b0, b1, b2⟩ := ent_cells KQ2
            have e0 := KQ2.frozen 0
            have e1 := KQ2.frozen 1
            have e2 := KQ2.frozen 2
            have KQ3 := rng_many KQ2 (.int .i64 F) (.int .i64 T) (.bool B)
            have KP3 := setMany_far KP2 (show gP ≠ gQ by omega) [(0, .int .i64 F), (1, .int .i64 T), (2, .bool B)]
            have hc3 := setMany_below hc2 (show w1.heap.size ≤ gQ by omega) [(0, .int .i64 F), (1, .int .i64 T), (2, .bool B)]
            have ks3 := at_many ks2 (show gQ ≠ w.heap.size by omega) [(0, .int .i64 F), (1, .int .i64 T), (2, .bool B)]
            refine wpAnyH_ready (rs := [17]) (by kernel_rfl) (by simp) ?_
            refine AllReadyH.cons rfl (fun K hK => ?_) AllReadyH.nil
            go_simp
            refine hK.out _ _ (show _ from ks3) (fun hHeld => ?_)
            clear hK K
            (try simp only [List.getElem_toArray, List.getElem_cons_zero, List.getElem_cons_succ, Act.put, List.setIfInBounds_toArray, List.set_cons_zero, List.set_cons_succ])
            refine wpAnyH_done (by kernel_rfl) ?_ _
            go_wp2_with fail
            go_meet
            exact ⟨_, _, rfl, rfl, KP3, KQ3, hc3⟩
          · go_simp
            have KP := Blk.new v12 25 #[.int .i64 0, .int .i64 0, .bool false]
            have hb15 : Below w1.heap.size w1 (v12.alloc (.cells #[.int .i64 0, .int .i64 0, .bool false] 25)) := hb12.alloc hb12.size _
            have GP : w1.heap.size ≤ v12.heap.size := hb12.size
            have hne := KQ.lt
            replace KQ := KQ.alloc (.cells #[.int .i64 0, .int .i64 0, .bool false] 25)
            refine hK.out _ _ (KS.out _ hb15) (fun hHeld => ?_)
            clear hK K
            (try simp only [List.getElem_toArray, List.getElem_cons_zero, List.getElem_cons_succ, Act.put, List.setIfInBounds_toArray, List.set_cons_zero, List.set_cons_succ])
            generalize hg15 : v12.heap.size = gP at *
            generalize v12.alloc (.cells #[.int .i64 0, .int .i64 0, .bool false] 25) = v15 at *
            clear hg15
            refine wpAnyH_ready (rs := [13]) (by kernel_rfl) (by simp) ?_
            refine AllReadyH.cons rfl (fun K hK => ?_) AllReadyH.nil
            go_simp
            refine (HB.out _ hb15).mono ?_
            rintro ee v16 ⟨rfl, hb16, hs16⟩
            replace KP := KP.below hs16 KP.lt
            replace KQ := KQ.below hs16 KQ.lt
            (try go_wp2_with fail)
            refine hK.out _ _ (KS.out _ hb16) (fun hHeld => ?_)
            clear hK K
            (try simp only [List.getElem_toArray, List.getElem_cons_zero, List.getElem_cons_succ, Act.put, List.setIfInBounds_toArray, List.set_cons_zero, List.set_cons_succ])
            obtain ⟨a0, a1, a2⟩ := ent_cells KP
            have f0 := KP.frozen 0
            have f1 := KP.frozen 1
            have f2 := KP.frozen 2
            have KP2 : Blk (((v16.setCell ⟨gP, 0, none⟩ (.int .i64 F)).setCell ⟨gP, 1, none⟩ (.int .i64 T)).setCell ⟨gP, 2, none⟩ (.bool B)) gP 25 #[.int .i64 F, .int .i64 T, .bool B] := rng_many KP (.int .i64 F) (.int .i64 T) (.bool B)
            have KQ2 : Blk (((v16.setCell ⟨gP, 0, none⟩ (.int .i64 F)).setCell ⟨gP, 1, none⟩ (.int .i64 T)).setCell ⟨gP, 2, none⟩ (.bool B)) gQ 27 #[.int .i64 0, .int .i64 0, .bool false] := setMany_far KQ (show gQ ≠ gP by omega) [(0, .int .i64 F), (1, .int .i64 T), (2, .bool B)]
            have hc2 : Below w1.heap.size w1 (((v16.setCell ⟨gP, 0, none⟩ (.int .i64 F)).setCell ⟨gP, 1, none⟩ (.int .i64 T)).setCell ⟨gP, 2, none⟩ (.bool B)) := setMany_below hb16 (show w1.heap.size ≤ gP by omega) [(0, .int .i64 F), (1, .int .i64 T), (2, .bool B)]
            have ks2 : (((v16.setCell ⟨gP, 0, none⟩ (.int .i64 F)).setCell ⟨gP, 1, none⟩ (.int .i64 T)).setCell ⟨gP, 2, none⟩ (.bool B)).cell? ⟨w.heap.size, 0, none⟩ = some (.int .i64 p) ∧ (((v16.setCell ⟨gP, 0, none⟩ (.int .i64 F)).setCell ⟨gP, 1, none⟩ (.int .i64 T)).setCell ⟨gP, 2, none⟩ (.bool B)).cell? ⟨w.heap.size, 1, none⟩ = some (.int .i64 q) := at_many (KS.out _ hb16) (show gP ≠ w.heap.size by omega) [(0, .int .i64 F), (1, .int .i64 T), (2, .bool B)]
            refine wpAnyH_ready (rs := [16]) (by kernel_rfl) (by simp) ?_
            refine AllReadyH.cons rfl (fun K hK => ?_) AllReadyH.nil
            go_simp
            refine hK.out _ _ (show _ from ks2) (fun hHeld => ?_)
            clear hK K
            (try simp only [List.getElem_toArray, List.getElem_cons_zero, List.getElem_cons_succ, Act.put, List.setIfInBounds_toArray, List.set_cons_zero, List.set_cons_succ])
            generalize ((v16.setCell ⟨gP, 0, none⟩ (.int .i64 F)).setCell ⟨gP, 1, none⟩ (.int .i64 T)).setCell ⟨gP, 2, none⟩ (.bool B) = wz at *
            obtain ⟨b0, b1, b2⟩ := ent_cells KQ2
            have e0 := KQ2.frozen 0
            have e1 := KQ2.frozen 1
            have e2 := KQ2.frozen 2
            have KQ3 := rng_many KQ2 (.int .i64 F) (.int .i64 T) (.bool B)
            have KP3 := setMany_far KP2 (show gP ≠ gQ by omega) [(0, .int .i64 F), (1, .int .i64 T), (2, .bool B)]
            have hc3 := setMany_below hc2 (show w1.heap.size ≤ gQ by omega) [(0, .int .i64 F), (1, .int .i64 T), (2, .bool B)]
            have ks3 := at_many ks2 (show gQ ≠ w.heap.size by omega) [(0, .int .i64 F), (1, .int .i64 T), (2, .bool B)]
            refine wpAnyH_ready (rs := [17]) (by kernel_rfl) (by simp) ?_
            refine AllReadyH.cons rfl (fun K hK => ?_) AllReadyH.nil
            go_simp
            refine hK.out _ _ (show _ from ks3) (fun hHeld => ?_)
            clear hK K
            (try simp only [List.getElem_toArray, List.getElem_cons_zero, List.getElem_cons_succ, Act.put, List.setIfInBounds_toArray, List.set_cons_zero, List.set_cons_succ])
            refine wpAnyH_done (by kernel_rfl) ?_ _
            go_wp2_with fail
            go_meet
            exact ⟨_, _, rfl, rfl, KP3, KQ3, hc3⟩
      · go_simp
        have KP : Blk (w1.alloc (.cells #[.int .i64 0, .int .i64 0, .bool false] 25)).drew w1.heap.size 25 #[.int .i64 0, .int .i64 0, .bool false] := Blk.new w1 25 #[.int .i64 0, .int .i64 0, .bool false]
        have hb17 : Below w1.heap.size w1 (w1.alloc (.cells #[.int .i64 0, .int .i64 0, .bool false] 25)).drew := below_drewN (hb0.alloc (Nat.le_refl _) _) 1
        have GP : w1.heap.size ≤ w1.heap.size := Nat.le_refl _
        refine hK.out _ _ (KS.out _ hb17) (fun hHeld => ?_)
        clear hK K
        (try simp only [List.getElem_toArray, List.getElem_cons_zero, List.getElem_cons_succ, Act.put, List.setIfInBounds_toArray, List.set_cons_zero, List.set_cons_succ])
        generalize (w1.alloc (.cells #[.int .i64 0, .int .i64 0, .bool false] 25)).drew = v17 at *
        refine wpAnyH_ready (rs := [6, 15]) (by kernel_rfl) (by simp) ?_
        refine AllReadyH.cons rfl (fun K hK => ?_) (AllReadyH.cons rfl (fun K hK => ?_) AllReadyH.nil)
        · go_simp
          refine (HA.out _ hb17).mono ?_
          rintro ee v18 ⟨rfl, hb18, hs18⟩
          replace KP := KP.below hs18 KP.lt
          (try go_wp2_with fail)
          refine hK.out _ _ (KS.out _ hb18) (fun hHeld => ?_)
          clear hK K
          (try simp only [List.getElem_toArray, List.getElem_cons_zero, List.getElem_cons_succ, Act.put, List.setIfInBounds_toArray, List.set_cons_zero, List.set_cons_succ])
          refine wpAnyH_ready (rs := [13, 15]) (by kernel_rfl) (by simp) ?_
          refine AllReadyH.cons rfl (fun K hK => ?_) (AllReadyH.cons rfl (fun K hK => ?_) AllReadyH.nil)
          · go_simp
            refine (HB.out _ hb18).mono ?_
            rintro ee v19 ⟨rfl, hb19, hs19⟩
            replace KP := KP.below hs19 KP.lt
            (try go_wp2_with fail)
            refine hK.out _ _ (KS.out _ hb19) (fun hHeld => ?_)
            clear hK K
            (try simp only [List.getElem_toArray, List.getElem_cons_zero, List.getElem_cons_succ, Act.put, List.setIfInBounds_toArray, List.set_cons_zero, List.set_cons_succ])
            refine wpAnyH_ready (rs := [15]) (by kernel_rfl) (by simp) ?_
            refine AllReadyH.cons rfl (fun K hK => ?_) AllReadyH.nil
            go_simp
            have KQ := Blk.new v19 27 #[.int .i64 0, .int .i64 0, .bool false]
            have hb20 : Below w1.heap.size w1 (v19.alloc (.cells #[.int .i64 0, .int .i64 0, .bool false] 27)) := hb19.alloc hb19.size _
            have GQ : w1.heap.size ≤ v19.heap.size := hb19.size
            have hne := KP.lt
            replace KP := KP.alloc (.cells #[.int .i64 0, .int .i64 0, .bool false] 27)
            refine hK.out _ _ (KS.out _ hb20) (fun hHeld => ?_)
            clear hK K
            (try simp only [List.getElem_toArray, List.getElem_cons_zero, List.getElem_cons_succ, Act.put, List.setIfInBounds_toArray, List.set_cons_zero, List.set_cons_succ])
            generalize hg20 : v19.heap.size = gQ at *
            generalize v19.alloc (.cells #[.int .i64 0, .int .i64 0, .bool false] 27) = v20 at *
            clear hg20
            obtain ⟨a0, a1, a2⟩ := ent_cells KP
            have f0 := KP.frozen 0
            have f1 := KP.frozen 1
            have f2 := KP.frozen 2
            have KP2 : Blk (((v20.setCell ⟨w1.heap.size, 0, none⟩ (.int .i64 F)).setCell ⟨w1.heap.size, 1, none⟩ (.int .i64 T)).setCell ⟨w1.heap.size, 2, none⟩ (.bool B)) w1.heap.size 25 #[.int .i64 F, .int .i64 T, .bool B] := rng_many KP (.int .i64 F) (.int .i64 T) (.bool B)
            have KQ2 : Blk (((v20.setCell ⟨w1.heap.size, 0, none⟩ (.int .i64 F)).setCell ⟨w1.heap.size, 1, none⟩ (.int .i64 T)).setCell ⟨w1.heap.size, 2, none⟩ (.bool B)) gQ 27 #[.int .i64 0, .int .i64 0, .bool false] := setMany_far KQ (show gQ ≠ w1.heap.size by omega) [(0, .int .i64 F), (1, .int .i64 T), (2, .bool B)]
            have hc2 : Below w1.heap.size w1 (((v20.setCell ⟨w1.heap.size, 0, none⟩ (.int .i64 F)).setCell ⟨w1.heap.size, 1, none⟩ (.int .i64 T)).setCell ⟨w1.heap.size, 2, none⟩ (.bool B)) := setMany_below hb20 (show w1.heap.size ≤ w1.heap.size by omega) [(0, .int .i64 F), (1, .int .i64 T), (2, .bool B)]
            have ks2 : (((v20.setCell ⟨w1.heap.size, 0, none⟩ (.int .i64 F)).setCell ⟨w1.heap.size, 1, none⟩ (.int .i64 T)).setCell ⟨w1.heap.size, 2, none⟩ (.bool B)).cell? ⟨w.heap.size, 0, none⟩ = some (.int .i64 p) ∧ (((v20.setCell ⟨w1.heap.size, 0, none⟩ (.int .i64 F)).setCell ⟨w1.heap.size, 1, none⟩ (.int .i64 T)).setCell ⟨w1.heap.size, 2, none⟩ (.bool B)).cell? ⟨w.heap.size, 1, none⟩ = some (.int .i64 q) := at_many (KS.out _ hb20) (show w1.heap.size ≠ w.heap.size by omega) [(0, .int .i64 F), (1, .int .i64 T), (2, .bool B)]
            refine wpAnyH_ready (rs := [16]) (by kernel_rfl) (by simp) ?_
            refine AllReadyH.cons rfl (fun K hK => ?_) AllReadyH.nil
            go_simp
            refine hK.out _ _ (show _ from ks2) (fun hHeld => ?_)
            clear hK K
            (try simp only [List.getElem_toArray, List.getElem_cons_zero, List.getElem_cons_succ, Act.put, List.setIfInBounds_toArray, List.set_cons_zero, List.set_cons_succ])
            generalize ((v20.setCell ⟨w1.heap.size, 0, none⟩ (.int .i64 F)).setCell ⟨w1.heap.size, 1, none⟩ (.int .i64 T)).setCell ⟨w1.heap.size, 2, none⟩ (.bool B) = wz at *
            obtain ⟨b0, b1, b2⟩ := ent_cells KQ2
            have e0 := KQ2.frozen 0
            have e1 := KQ2.frozen 1
            have e2 := KQ2.frozen 2
            have KQ3 := rng_many KQ2 (.int .i64 F) (.int .i64 T) (.bool B)
            have KP3 := setMany_far KP2 (show w1.heap.size ≠ gQ by omega) [(0, .int .i64 F), (1, .int .i64 T), (2, .bool B)]
            have hc3 := setMany_below hc2 (show w1.heap.size ≤ gQ by omega) [(0, .int .i64 F), (1, .int .i64 T), (2, .bool B)]
            have ks3 := at_many ks2 (show gQ ≠ w.heap.size by omega) [(0, .int .i64 F), (1, .int .i64 T), (2, .bool B)]
            refine wpAnyH_ready (rs := [17]) (by kernel_rfl) (by simp) ?_
            refine AllReadyH.cons rfl (fun K hK => ?_) AllReadyH.nil
            go_simp
            refine hK.out _ _ (show _ from ks3) (fun hHeld => ?_)
            clear hK K
            (try simp only [List.getElem_toArray, List.getElem_cons_zero, List.getElem_cons_succ, Act.put, List.setIfInBounds_toArray, List.set_cons_zero, List.set_cons_succ])
            refine wpAnyH_done (by kernel_rfl) ?_ _
            go_wp2_with fail
            go_meet
            exact ⟨_, _, rfl, rfl, KP3, KQ3, hc3⟩
          · go_simp
            have KQ := Blk.new v18 27 #[.int .i64 0, .int .i64 0, .bool false]
            have hb21 : Below w1.heap.size w1 (v18.alloc (.cells #[.int .i64 0, .int .i64 0, .bool false] 27)) := hb18.alloc hb18.size _
            have GQ : w1.heap.size ≤ v18.heap.size := hb18.size
            have hne := KP.lt
            replace KP := KP.alloc (.cells #[.int .i64 0, .int .i64 0, .bool false] 27)
            refine hK.out _ _ (KS.out _ hb21) (fun hHeld => ?_)
            clear hK K
            (try simp only [List.getElem_toArray, List.getElem_cons_zero, List.getElem_cons_succ, Act.put, List.setIfInBounds_toArray, List.set_cons_zero, List.set_cons_succ])
            generalize hg21 : v18.heap.size = gQ at *
            generalize v18.alloc (.cells #[.int .i64 0, .int .i64 0, .bool false] 27) = v21 at *
            clear hg21
            refine wpAnyH_ready (rs := [13]) (by kernel_rfl) (by simp) ?_
            refine AllReadyH.cons rfl (fun K hK => ?_) AllReadyH.nil
            go_simp
            refine (HB.out _ hb21).mono ?_
            rintro ee v22 ⟨rfl, hb22, hs22⟩
            replace KP := KP.below hs22 KP.lt
            replace KQ := KQ.below hs22 KQ.lt
            (try go_wp2_with fail)
            refine hK.out _ _ (KS.out _ hb22) (fun hHeld => ?_)
            clear hK K
            (try simp only [List.getElem_toArray, List.getElem_cons_zero, List.getElem_cons_succ, Act.put, List.setIfInBounds_toArray, List.set_cons_zero, List.set_cons_succ])
            obtain ⟨a0, a1, a2⟩ := ent_cells KP
            have f0 := KP.frozen 0
            have f1 := KP.frozen 1
            have f2 := KP.frozen 2
            have KP2 : Blk (((v22.setCell ⟨w1.heap.size, 0, none⟩ (.int .i64 F)).setCell ⟨w1.heap.size, 1, none⟩ (.int .i64 T)).setCell ⟨w1.heap.size, 2, none⟩ (.bool B)) w1.heap.size 25 #[.int .i64 F, .int .i64 T, .bool B] := rng_many KP (.int .i64 F) (.int .i64 T) (.bool B)
            have KQ2 : Blk (((v22.setCell ⟨w1.heap.size, 0, none⟩ (.int .i64 F)).setCell ⟨w1.heap.size, 1, none⟩ (.int .i64 T)).setCell ⟨w1.heap.size, 2, none⟩ (.bool B)) gQ 27 #[.int .i64 0, .int .i64 0, .bool false] := setMany_far KQ (show gQ ≠ w1.heap.size by omega) [(0, .int .i64 F), (1, .int .i64 T), (2, .bool B)]
            have hc2 : Below w1.heap.size w1 (((v22.setCell ⟨w1.heap.size, 0, none⟩ (.int .i64 F)).setCell ⟨w1.heap.size, 1, none⟩ (.int .i64 T)).setCell ⟨w1.heap.size, 2, none⟩ (.bool B)) := setMany_below hb22 (show w1.heap.size ≤ w1.heap.size by omega) [(0, .int .i64 F), (1, .int .i64 T), (2, .bool B)]
            have ks2 : (((v22.setCell ⟨w1.heap.size, 0, none⟩ (.int .i64 F)).setCell ⟨w1.heap.size, 1, none⟩ (.int .i64 T)).setCell ⟨w1.heap.size, 2, none⟩ (.bool B)).cell? ⟨w.heap.size, 0, none⟩ = some (.int .i64 p) ∧ (((v22.setCell ⟨w1.heap.size, 0, none⟩ (.int .i64 F)).setCell ⟨w1.heap.size, 1, none⟩ (.int .i64 T)).setCell ⟨w1.heap.size, 2, none⟩ (.bool B)).cell? ⟨w.heap.size, 1, none⟩ = some (.int .i64 q) := at_many (KS.out _ hb22) (show w1.heap.size ≠ w.heap.size by omega) [(0, .int .i64 F), (1, .int .i64 T), (2, .bool B)]
            refine wpAnyH_ready (rs := [16]) (by kernel_rfl) (by simp) ?_
            refine AllReadyH.cons rfl (fun K hK => ?_) AllReadyH.nil
            go_simp
            refine hK.out _ _ (show _ from ks2) (fun hHeld => ?_)
            clear hK K
            (try simp only [List.getElem_toArray, List.getElem_cons_zero, List.getElem_cons_succ, Act.put, List.setIfInBounds_toArray, List.set_cons_zero, List.set_cons_succ])
            generalize ((v22.setCell ⟨w1.heap.size, 0, none⟩ (.int .i64 F)).setCell ⟨w1.heap.size, 1, none⟩ (.int .i64 T)).setCell ⟨w1.heap.size, 2, none⟩ (.bool B) = wz at *
            obtain ⟨b0, b1, b2⟩ := ent_cells KQ2
            have e0 := KQ2.frozen 0
            have e1 := KQ2.frozen 1
            have e2 := KQ2.frozen 2
            have KQ3 := rng_many KQ2 (.int .i64 F) (.int .i64 T) (.bool B)
            have KP3 := setMany_far KP2 (show w1.heap.size ≠ gQ by omega) [(0, .int .i64 F), (1, .int .i64 T), (2, .bool B)]
            have hc3 := setMany_below hc2 (show w1.heap.size ≤ gQ by omega) [(0, .int .i64 F), (1, .int .i64 T), (2, .bool B)]
            have ks3 := at_many ks2 (show gQ ≠ w.heap.size by omega) [(0, .int .i64 F), (1, .int .i64 T), (2, .bool B)]
            refine wpAnyH_ready (rs := [17]) (by kernel_rfl) (by simp) ?_
            refine AllReadyH.cons rfl (fun K hK => ?_) AllReadyH.nil
            go_simp
            refine hK.out _ _ (show _ from ks3) (fun hHeld => ?_)
            clear hK K
            (try simp only [List.getElem_toArray, List.getElem_cons_zero, List.getElem_cons_succ, Act.put, List.setIfInBounds_toArray, List.set_cons_zero, List.set_cons_succ])
            refine wpAnyH_done (by kernel_rfl) ?_ _
            go_wp2_with fail
            go_meet
            exact ⟨_, _, rfl, rfl, KP3, KQ3, hc3⟩
        · go_simp
          have KQ := Blk.new v17 27 #[.int .i64 0, .int .i64 0, .bool false]
          have hb23 : Below w1.heap.size w1 (v17.alloc (.cells #[.int .i64 0, .int .i64 0, .bool false] 27)) := hb17.alloc hb17.size _
          have GQ : w1.heap.size ≤ v17.heap.size := hb17.size
          have hne := KP.lt
          replace KP := KP.alloc (.cells #[.int .i64 0, .int .i64 0, .bool false] 27)
          refine hK.out _ _ (KS.out _ hb23) (fun hHeld => ?_)
          clear hK K
          (try simp only [List.getElem_toArray, List.getElem_cons_zero, List.getElem_cons_succ, Act.put, List.setIfInBounds_toArray, List.set_cons_zero, List.set_cons_succ])
          generalize hg23 : v17.heap.size = gQ at *
          generalize v17.alloc (.cells #[.int .i64 0, .int .i64 0, .bool false] 27) = v23 at *
          clear hg23
          refine wpAnyH_ready (rs := [6]) (by kernel_rfl) (by simp) ?_
          refine AllReadyH.cons rfl (fun K hK => ?_) AllReadyH.nil
          go_simp
          refine (HA.out _ hb23).mono ?_
          rintro ee v24 ⟨rfl, hb24, hs24⟩
          replace KP := KP.below hs24 KP.lt
          replace KQ := KQ.below hs24 KQ.lt
          (try go_wp2_with fail)
          refine hK.out _ _ (KS.out _ hb24) (fun hHeld => ?_)
          clear hK K
          (try simp only [List.getElem_toArray, List.getElem_cons_zero, List.getElem_cons_succ, Act.put, List.setIfInBounds_toArray, List.set_cons_zero, List.set_cons_succ])
          refine wpAnyH_ready (rs := [13]) (by kernel_rfl) (by simp) ?_
          refine AllReadyH.cons rfl (fun K hK => ?_) AllReadyH.nil
          go_simp
          refine (HB.out _ hb24).mono ?_
          rintro ee v25 ⟨rfl, hb25, hs25⟩
          replace KP := KP.below hs25 KP.lt
          replace KQ := KQ.below hs25 KQ.lt
          (try go_wp2_with fail)
          refine hK.out _ _ (KS.out _ hb25) (fun hHeld => ?_)
          clear hK K
          (try simp only [List.getElem_toArray, List.getElem_cons_zero, List.getElem_cons_succ, Act.put, List.setIfInBounds_toArray, List.set_cons_zero, List.set_cons_succ])
          obtain ⟨a0, a1, a2⟩ := ent_cells KP
          have f0 := KP.frozen 0
          have f1 := KP.frozen 1
          have f2 := KP.frozen 2
          have KP2 : Blk (((v25.setCell ⟨w1.heap.size, 0, none⟩ (.int .i64 F)).setCell ⟨w1.heap.size, 1, none⟩ (.int .i64 T)).setCell ⟨w1.heap.size, 2, none⟩ (.bool B)) w1.heap.size 25 #[.int .i64 F, .int .i64 T, .bool B] := rng_many KP (.int .i64 F) (.int .i64 T) (.bool B)
          have KQ2 : Blk (((v25.setCell ⟨w1.heap.size, 0, none⟩ (.int .i64 F)).setCell ⟨w1.heap.size, 1, none⟩ (.int .i64 T)).setCell ⟨w1.heap.size, 2, none⟩ (.bool B)) gQ 27 #[.int .i64 0, .int .i64 0, .bool false] := setMany_far KQ (show gQ ≠ w1.heap.size by omega) [(0, .int .i64 F), (1, .int .i64 T), (2, .bool B)]
          have hc2 : Below w1.heap.size w1 (((v25.setCell ⟨w1.heap.size, 0, none⟩ (.int .i64 F)).setCell ⟨w1.heap.size, 1, none⟩ (.int .i64 T)).setCell ⟨w1.heap.size, 2, none⟩ (.bool B)) := setMany_below hb25 (show w1.heap.size ≤ w1.heap.size by omega) [(0, .int .i64 F), (1, .int .i64 T), (2, .bool B)]
          have ks2 : (((v25.setCell ⟨w1.heap.size, 0, none⟩ (.int .i64 F)).setCell ⟨w1.heap.size, 1, none⟩ (.int .i64 T)).setCell ⟨w1.heap.size, 2, none⟩ (.bool B)).cell? ⟨w.heap.size, 0, none⟩ = some (.int .i64 p) ∧ (((v25.setCell ⟨w1.heap.size, 0, none⟩ (.int .i64 F)).setCell ⟨w1.heap.size, 1, none⟩ (.int .i64 T)).setCell ⟨w1.heap.size, 2, none⟩ (.bool B)).cell? ⟨w.heap.size, 1, none⟩ = some (.int .i64 q) := at_many (KS.out _ hb25) (show w1.heap.size ≠ w.heap.size by omega) [(0, .int .i64 F), (1, .int .i64 T), (2, .bool B)]
          refine wpAnyH_ready (rs := [16]) (by kernel_rfl) (by simp) ?_
          refine AllReadyH.cons rfl (fun K hK => ?_) AllReadyH.nil
          go_simp
          refine hK.out _ _ (show _ from ks2) (fun hHeld => ?_)
          clear hK K
          (try simp only [List.getElem_toArray, List.getElem_cons_zero, List.getElem_cons_succ, Act.put, List.setIfInBounds_toArray, List.set_cons_zero, List.set_cons_succ])
          generalize ((v25.setCell ⟨w1.heap.size, 0, none⟩ (.int .i64 F)).setCell ⟨w1.heap.size, 1, none⟩ (.int .i64 T)).setCell ⟨w1.heap.size, 2, none⟩ (.bool B) = wz at *
          obtain ⟨b0, b1, b2⟩ := ent_cells KQ2
          have e0 := KQ2.frozen 0
          have e1 := KQ2.frozen 1
          have e2 := KQ2.frozen 2
          have KQ3 := rng_many KQ2 (.int .i64 F) (.int .i64 T) (.bool B)
          have KP3 := setMany_far KP2 (show w1.heap.size ≠ gQ by omega) [(0, .int .i64 F), (1, .int .i64 T), (2, .bool B)]
          have hc3 := setMany_below hc2 (show w1.heap.size ≤ gQ by omega) [(0, .int .i64 F), (1, .int .i64 T), (2, .bool B)]
          have ks3 := at_many ks2 (show gQ ≠ w.heap.size by omega) [(0, .int .i64 F), (1, .int .i64 T), (2, .bool B)]
          refine wpAnyH_ready (rs := [17]) (by kernel_rfl) (by simp) ?_
          refine AllReadyH.cons rfl (fun K hK => ?_) AllReadyH.nil
          go_simp
          refine hK.out _ _ (show _ from ks3) (fun hHeld => ?_)
          clear hK K
          (try simp only [List.getElem_toArray, List.getElem_cons_zero, List.getElem_cons_succ, Act.put, List.setIfInBounds_toArray, List.set_cons_zero, List.set_cons_succ])
          refine wpAnyH_done (by kernel_rfl) ?_ _
          go_wp2_with fail
          go_meet
          exact ⟨_, _, rfl, rfl, KP3, KQ3, hc3⟩
      · go_simp
        have KQ : Blk (w1.alloc (.cells #[.int .i64 0, .int .i64 0, .bool false] 27)).drew w1.heap.size 27 #[.int .i64 0, .int .i64 0, .bool false] := Blk.new w1 27 #[.int .i64 0, .int .i64 0, .bool false]
        have hb26 : Below w1.heap.size w1 (w1.alloc (.cells #[.int .i64 0, .int .i64 0, .bool false] 27)).drew := below_drewN (hb0.alloc (Nat.le_refl _) _) 1
        have GQ : w1.heap.size ≤ w1.heap.size := Nat.le_refl _
        refine hK.out _ _ (KS.out _ hb26) (fun hHeld => ?_)
        clear hK K
        (try simp only [List.getElem_toArray, List.getElem_cons_zero, List.getElem_cons_succ, Act.put, List.setIfInBounds_toArray, List.set_cons_zero, List.set_cons_succ])
        generalize (w1.alloc (.cells #[.int .i64 0, .int .i64 0, .bool false] 27)).drew = v26 at *
        refine wpAnyH_ready (rs := [6, 14]) (by kernel_rfl) (by simp) ?_
        refine AllReadyH.cons rfl (fun K hK => ?_) (AllReadyH.cons rfl (fun K hK => ?_) AllReadyH.nil)
        · go_simp
          refine (HA.out _ hb26).mono ?_
          rintro ee v27 ⟨rfl, hb27, hs27⟩
          replace KQ := KQ.below hs27 KQ.lt
          (try go_wp2_with fail)
          refine hK.out _ _ (KS.out _ hb27) (fun hHeld => ?_)
          clear hK K
          (try simp only [List.getElem_toArray, List.getElem_cons_zero, List.getElem_cons_succ, Act.put, List.setIfInBounds_toArray, List.set_cons_zero, List.set_cons_succ])
          refine wpAnyH_ready (rs := [13, 14]) (by kernel_rfl) (by simp) ?_
          refine AllReadyH.cons rfl (fun K hK => ?_) (AllReadyH.cons rfl (fun K hK => ?_) AllReadyH.nil)
          · go_simp
            refine (HB.out _ hb27).mono ?_
            rintro ee v28 ⟨rfl, hb28, hs28⟩
            replace KQ := KQ.below hs28 KQ.lt
            (try go_wp2_with fail)
            refine hK.out _ _ (KS.out _ hb28) (fun hHeld => ?_)
            clear hK K
            (try simp only [List.getElem_toArray, List.getElem_cons_zero, List.getElem_cons_succ, Act.put, List.setIfInBounds_toArray, List.set_cons_zero, List.set_cons_succ])
            refine wpAnyH_ready (rs := [14]) (by kernel_rfl) (by simp) ?_
            refine AllReadyH.cons rfl (fun K hK => ?_) AllReadyH.nil
            go_simp
            have KP := Blk.new v28 25 #[.int .i64 0, .int .i64 0, .bool false]
            have hb29 : Below w1.heap.size w1 (v28.alloc (.cells #[.int .i64 0, .int .i64 0, .bool false] 25)) := hb28.alloc hb28.size _
            have GP : w1.heap.size ≤ v28.heap.size := hb28.size
            have hne := KQ.lt
            replace KQ := KQ.alloc (.cells #[.int .i64 0, .int .i64 0, .bool false] 25)
            refine hK.out _ _ (KS.out _ hb29) (fun hHeld => ?_)
            clear hK K
            (try simp only [List.getElem_toArray, List.getElem_cons_zero, List.getElem_cons_succ, Act.put, List.setIfInBounds_toArray, List.set_cons_zero, List.set_cons_succ])
            generalize hg29 : v28.heap.size = gP at *
            generalize v28.alloc (.cells #[.int .i64 0, .int .i64 0, .bool false] 25) = v29 at *
            clear hg29
            obtain ⟨a0, a1, a2⟩ := ent_cells KP
            have f0 := KP.frozen 0
            have f1 := KP.frozen 1
            have f2 := KP.frozen 2
            have KP2 : Blk (((v29.setCell ⟨gP, 0, none⟩ (.int .i64 F)).setCell ⟨gP, 1, none⟩ (.int .i64 T)).setCell ⟨gP, 2, none⟩ (.bool B)) gP 25 #[.int .i64 F, .int .i64 T, .bool B] := rng_many KP (.int .i64 F) (.int .i64 T) (.bool B)
            have KQ2 : Blk (((v29.setCell ⟨gP, 0, none⟩ (.int .i64 F)).setCell ⟨gP, 1, none⟩ (.int .i64 T)).setCell ⟨gP, 2, none⟩ (.bool B)) w1.heap.size 27 #[.int .i64 0, .int .i64 0, .bool false] := setMany_far KQ (show w1.heap.size ≠ gP by omega) [(0, .int .i64 F), (1, .int .i64 T), (2, .bool B)]
            have hc2 : Below w1.heap.size w1 (((v29.setCell ⟨gP, 0, none⟩ (.int .i64 F)).setCell ⟨gP, 1, none⟩ (.int .i64 T)).setCell ⟨gP, 2, none⟩ (.bool B)) := setMany_below hb29 (show w1.heap.size ≤ gP by omega) [(0, .int .i64 F), (1, .int .i64 T), (2, .bool B)]
            have ks2 : (((v29.setCell ⟨gP, 0, none⟩ (.int .i64 F)).setCell ⟨gP, 1, none⟩ (.int .i64 T)).setCell ⟨gP, 2, none⟩ (.bool B)).cell? ⟨w.heap.size, 0, none⟩ = some (.int .i64 p) ∧ (((v29.setCell ⟨gP, 0, none⟩ (.int .i64 F)).setCell ⟨gP, 1, none⟩ (.int .i64 T)).setCell ⟨gP, 2, none⟩ (.bool B)).cell? ⟨w.heap.size, 1, none⟩ = some (.int .i64 q) := at_many (KS.out _ hb29) (show gP ≠ w.heap.size by omega) [(0, .int .i64 F), (1, .int .i64 T), (2, .bool B)]
            refine wpAnyH_ready (rs := [16]) (by kernel_rfl) (by simp) ?_
            refine AllReadyH.cons rfl (fun K hK => ?_) AllReadyH.nil
            go_simp
            refine hK.out _ _ (show _ from ks2) (fun hHeld => ?_)
            clear hK K
            (try simp only [List.getElem_toArray, List.getElem_cons_zero, List.getElem_cons_succ, Act.put, List.setIfInBounds_toArray, List.set_cons_zero, List.set_cons_succ])
            generalize ((v29.setCell ⟨gP, 0, none⟩ (.int .i64 F)).setCell ⟨gP, 1, none⟩ (.int .i64 T)).setCell ⟨gP, 2, none⟩ (.bool B) = wz at *
            obtain ⟨b0, b1, b2⟩ := ent_cells KQ2
            have e0 := KQ2.frozen 0
            have e1 := KQ2.frozen 1
            have e2 := KQ2.frozen 2
            have KQ3 := rng_many KQ2 (.int .i64 F) (.int .i64 T) (.bool B)
            have KP3 := setMany_far KP2 (show gP ≠ w1.heap.size by omega) [(0, .int .i64 F), (1, .int .i64 T), (2, .bool B)]
            have hc3 := setMany_below hc2 (show w1.heap.size ≤ w1.heap.size by omega) [(0, .int .i64 F), (1, .int .i64 T), (2, .bool B)]
            have ks3 := at_many ks2 (show w1.heap.size ≠ w.heap.size by omega) [(0, .int .i64 F), (1, .int .i64 T), (2, .bool B)]
            refine wpAnyH_ready (rs := [17]) (by kernel_rfl) (by simp) ?_
            refine AllReadyH.cons rfl (fun K hK => ?_) AllReadyH.nil
            go_simp
            refine hK.out _ _ (show _ from ks3) (fun hHeld => ?_)
            clear hK K
            (try simp only [List.getElem_toArray, List.getElem_cons_zero, List.getElem_cons_succ, Act.put, List.setIfInBounds_toArray, List.set_cons_zero, List.set_cons_succ])
            refine wpAnyH_done (by kernel_rfl) ?_ _
            go_wp2_with fail
            go_meet
            exact ⟨_, _, rfl, rfl, KP3, KQ3, hc3⟩
          · go_simp
            have KP := Blk.new v27 25 #[.int .i64 0, .int .i64 0, .bool false]
            have hb30 : Below w1.heap.size w1 (v27.alloc (.cells #[.int .i64 0, .int .i64 0, .bool false] 25)) := hb27.alloc hb27.size _
            have GP : w1.heap.size ≤ v27.heap.size := hb27.size
            have hne := KQ.lt
            replace KQ := KQ.alloc (.cells #[.int .i64 0, .int .i64 0, .bool false] 25)
            refine hK.out _ _ (KS.out _ hb30) (fun hHeld => ?_)
            clear hK K
            (try simp only [List.getElem_toArray, List.getElem_cons_zero, List.getElem_cons_succ, Act.put, List.setIfInBounds_toArray, List.set_cons_zero, List.set_cons_succ])
            generalize hg30 : v27.heap.size = gP at *
            generalize v27.alloc (.cells #[.int .i64 0, .int .i64 0, .bool false] 25) = v30 at *
            clear hg30
            refine wpAnyH_ready (rs := [13]) (by kernel_rfl) (by simp) ?_
            refine AllReadyH.cons rfl (fun K hK => ?_) AllReadyH.nil
            go_simp
            refine (HB.out _ hb30).mono ?_
            rintro ee v31 ⟨rfl, hb31, hs31⟩
            replace KP := KP.below hs31 KP.lt
            replace KQ := KQ.below hs31 KQ.lt
            (try go_wp2_with fail)
            refine hK.out _ _ (KS.out _ hb31) (fun hHeld => ?_)
            clear hK K
            (try simp only [List.getElem_toArray, List.getElem_cons_zero, List.getElem_cons_succ, Act.put, List.setIfInBounds_toArray, List.set_cons_zero, List.set_cons_succ])
            obtain ⟨a0, a1, a2⟩ := ent_cells KP
            have f0 := KP.frozen 0
            have f1 := KP.frozen 1
            have f2 := KP.frozen 2
            have KP2 : Blk (((v31.setCell ⟨gP, 0, none⟩ (.int .i64 F)).setCell ⟨gP, 1, none⟩ (.int .i64 T)).setCell ⟨gP, 2, none⟩ (.bool B)) gP 25 #[.int .i64 F, .int .i64 T, .bool B] := rng_many KP (.int .i64 F) (.int .i64 T) (.bool B)
            have KQ2 : Blk (((v31.setCell ⟨gP, 0, none⟩ (.int .i64 F)).setCell ⟨gP, 1, none⟩ (.int .i64 T)).setCell ⟨gP, 2, none⟩ (.bool B)) w1.heap.size 27 #[.int .i64 0, .int .i64 0, .bool false] := setMany_far KQ (show w1.heap.size ≠ gP by omega) [(0, .int .i64 F), (1, .int .i64 T), (2, .bool B)]
            have hc2 : Below w1.heap.size w1 (((v31.setCell ⟨gP, 0, none⟩ (.int .i64 F)).setCell ⟨gP, 1, none⟩ (.int .i64 T)).setCell ⟨gP, 2, none⟩ (.bool B)) := setMany_below hb31 (show w1.heap.size ≤ gP by omega) [(0, .int .i64 F), (1, .int .i64 T), (2, .bool B)]
            have ks2 : (((v31.setCell ⟨gP, 0, none⟩ (.int .i64 F)).setCell ⟨gP, 1, none⟩ (.int .i64 T)).setCell ⟨gP, 2, none⟩ (.bool B)).cell? ⟨w.heap.size, 0, none⟩ = some (.int .i64 p) ∧ (((v31.setCell ⟨gP, 0, none⟩ (.int .i64 F)).setCell ⟨gP, 1, none⟩ (.int .i64 T)).setCell ⟨gP, 2, none⟩ (.bool B)).cell? ⟨w.heap.size, 1, none⟩ = some (.int .i64 q) := at_many (KS.out _ hb31) (show gP ≠ w.heap.size by omega) [(0, .int .i64 F), (1, .int .i64 T), (2, .bool B)]
            refine wpAnyH_ready (rs := [16]) (by kernel_rfl) (by simp) ?_
            refine AllReadyH.cons rfl (fun K hK => ?_) AllReadyH.nil
            go_simp
            refine hK.out _ _ (show _ from ks2) (fun hHeld => ?_)
            clear hK K
            (try simp only [List.getElem_toArray, List.getElem_cons_zero, List.getElem_cons_succ, Act.put, List.setIfInBounds_toArray, List.set_cons_zero, List.set_cons_succ])
            generalize ((v31.setCell ⟨gP, 0, none⟩ (.int .i64 F)).setCell ⟨gP, 1, none⟩ (.int .i64 T)).setCell ⟨gP, 2, none⟩ (.bool B) = wz at *
            obtain ⟨b0, b1, b2⟩ := ent_cells KQ2
            have e0 := KQ2.frozen 0
            have e1 := KQ2.frozen 1
            have e2 := KQ2.frozen 2
            have KQ3 := rng_many KQ2 (.int .i64 F) (.int .i64 T) (.bool B)
            have KP3 := setMany_far KP2 (show gP ≠ w1.heap.size by omega) [(0, .int .i64 F), (1, .int .i64 T), (2, .bool B)]
            have hc3 := setMany_below hc2 (show w1.heap.size ≤ w1.heap.size by omega) [(0, .int .i64 F), (1, .int .i64 T), (2, .bool B)]
            have ks3 := at_many ks2 (show w1.heap.size ≠ w.heap.size by omega) [(0, .int .i64 F), (1, .int .i64 T), (2, .bool B)]
            refine wpAnyH_ready (rs := [17]) (by kernel_rfl) (by simp) ?_
            refine AllReadyH.cons rfl (fun K hK => ?_) AllReadyH.nil
            go_simp
            refine hK.out _ _ (show _ from ks3) (fun hHeld => ?_)
            clear hK K
            (try simp only [List.getElem_toArray, List.getElem_cons_zero, List.getElem_cons_succ, Act.put, List.setIfInBounds_toArray, List.set_cons_zero, List.set_cons_succ])
            refine wpAnyH_done (by kernel_rfl) ?_ _
            go_wp2_with fail
            go_meet
            exact ⟨_, _, rfl, rfl, KP3, KQ3, hc3⟩
        · go_simp
          have KP := Blk.new v26 25 #[.int .i64 0, .int .i64 0, .bool false]
          have hb32 : Below w1.heap.size w1 (v26.alloc (.cells #[.int .i64 0, .int .i64 0, .bool false] 25)) := hb26.alloc hb26.size _
          have GP : w1.heap.size ≤ v26.heap.size := hb26.size
          have hne := KQ.lt
          replace KQ := KQ.alloc (.cells #[.int .i64 0, .int .i64 0, .bool false] 25)
          refine hK.out _ _ (KS.out _ hb32) (fun hHeld => ?_)
          clear hK K
          (try simp only [List.getElem_toArray, List.getElem_cons_zero, List.getElem_cons_succ, Act.put, List.setIfInBounds_toArray, List.set_cons_zero, List.set_cons_succ])
          generalize hg32 : v26.heap.size = gP at *
          generalize v26.alloc (.cells #[.int .i64 0, .int .i64 0, .bool false] 25) = v32 at *
          clear hg32
          refine wpAnyH_ready (rs := [6]) (by kernel_rfl) (by simp) ?_
          refine AllReadyH.cons rfl (fun K hK => ?_) AllReadyH.nil
          go_simp
          refine (HA.out _ hb32).mono ?_
          rintro ee v33 ⟨rfl, hb33, hs33⟩
          replace KP := KP.below hs33 KP.lt
          replace KQ := KQ.below hs33 KQ.lt
          (try go_wp2_with fail)
          refine hK.out _ _ (KS.out _ hb33) (fun hHeld => ?_)
          clear hK K
          (try simp only [List.getElem_toArray, List.getElem_cons_zero, List.getElem_cons_succ, Act.put, List.setIfInBounds_toArray, List.set_cons_zero, List.set_cons_succ])
          refine wpAnyH_ready (rs := [13]) (by kernel_rfl) (by simp) ?_
          refine AllReadyH.cons rfl (fun K hK => ?_) AllReadyH.nil
          go_simp
          refine (HB.out _ hb33).mono ?_
          rintro ee v34 ⟨rfl, hb34, hs34⟩
          replace KP := KP.below hs34 KP.lt
          replace KQ := KQ.below hs34 KQ.lt
          (try go_wp2_with fail)
          refine hK.out _ _ (KS.out _ hb34) (fun hHeld => ?_)
          clear hK K
          (try simp only [List.getElem_toArray, List.getElem_cons_zero, List.getElem_cons_succ, Act.put, List.setIfInBounds_toArray, List.set_cons_zero, List.set_cons_succ])
          obtain ⟨a0, a1, a2⟩ := ent_cells KP
          have f0 := KP.frozen 0
          have f1 := KP.frozen 1
          have f2 := KP.frozen 2
          have KP2 : Blk (((v34.setCell ⟨gP, 0, none⟩ (.int .i64 F)).setCell ⟨gP, 1, none⟩ (.int .i64 T)).setCell ⟨gP, 2, none⟩ (.bool B)) gP 25 #[.int .i64 F, .int .i64 T, .bool B] := rng_many KP (.int .i64 F) (.int .i64 T) (.bool B)
          have KQ2 : Blk (((v34.setCell ⟨gP, 0, none⟩ (.int .i64 F)).setCell ⟨gP, 1, none⟩ (.int .i64 T)).setCell ⟨gP, 2, none⟩ (.bool B)) w1.heap.size 27 #[.int .i64 0, .int .i64 0, .bool false] := setMany_far KQ (show w1.heap.size ≠ gP by omega) [(0, .int .i64 F), (1, .int .i64 T), (2, .bool B)]
          have hc2 : Below w1.heap.size w1 (((v34.setCell ⟨gP, 0, none⟩ (.int .i64 F)).setCell ⟨gP, 1, none⟩ (.int .i64 T)).setCell ⟨gP, 2, none⟩ (.bool B)) := setMany_below hb34 (show w1.heap.size ≤ gP by omega) [(0, .int .i64 F), (1, .int .i64 T), (2, .bool B)]
          have ks2 : (((v34.setCell ⟨gP, 0, none⟩ (.int .i64 F)).setCell ⟨gP, 1, none⟩ (.int .i64 T)).setCell ⟨gP, 2, none⟩ (.bool B)).cell? ⟨w.heap.size, 0, none⟩ = some (.int .i64 p) ∧ (((v34.setCell ⟨gP, 0, none⟩ (.int .i64 F)).setCell ⟨gP, 1, none⟩ (.int .i64 T)).setCell ⟨gP, 2, none⟩ (.bool B)).cell? ⟨w.heap.size, 1, none⟩ = some (.int .i64 q) := at_many (KS.out _ hb34) (show gP ≠ w.heap.size by omega) [(0, .int .i64 F), (1, .int .i64 T), (2, .bool B)]
          refine wpAnyH_ready (rs := [16]) (by kernel_rfl) (by simp) ?_
          refine AllReadyH.cons rfl (fun K hK => ?_) AllReadyH.nil
          go_simp
          refine hK.out _ _ (show _ from ks2) (fun hHeld => ?_)
          clear hK K
          (try simp only [List.getElem_toArray, List.getElem_cons_zero, List.getElem_cons_succ, Act.put, List.setIfInBounds_toArray, List.set_cons_zero, List.set_cons_succ])
          generalize ((v34.setCell ⟨gP, 0, none⟩ (.int .i64 F)).setCell ⟨gP, 1, none⟩ (.int .i64 T)).setCell ⟨gP, 2, none⟩ (.bool B) = wz at *
          obtain ⟨b0, b1, b2⟩ := ent_cells KQ2
          have e0 := KQ2.frozen 0
          have e1 := KQ2.frozen 1
          have e2 := KQ2.frozen 2
          have KQ3 := rng_many KQ2 (.int .i64 F) (.int .i64 T) (.bool B)
          have KP3 := setMany_far KP2 (show gP ≠ w1.heap.size by omega) [(0, .int .i64 F), (1, .int .i64 T), (2, .bool B)]
          have hc3 := setMany_below hc2 (show w1.heap.size ≤ w1.heap.size by omega) [(0, .int .i64 F), (1, .int .i64 T), (2, .bool B)]
          have ks3 := at_many ks2 (show w1.heap.size ≠ w.heap.size by omega) [(0, .int .i64 F), (1, .int .i64 T), (2, .bool B)]
          refine wpAnyH_ready (rs := [17]) (by kernel_rfl) (by simp) ?_
          refine AllReadyH.cons rfl (fun K hK => ?_) AllReadyH.nil
          go_simp
          refine hK.out _ _ (show _ from ks3) (fun hHeld => ?_)
          clear hK K
          (try simp only [List.getElem_toArray, List.getElem_cons_zero, List.getElem_cons_succ, Act.put, List.setIfInBounds_toArray, List.set_cons_zero, List.set_cons_succ])
          refine wpAnyH_done (by kernel_rfl) ?_ _
          go_wp2_with fail
          go_meet
          exact ⟨_, _, rfl, rfl, KP3, KQ3, hc3⟩
    case rest =>
      obtain ⟨g1, g2, rfl, rfl, C1, C2, hbx⟩ := hcut
      obtain ⟨a0, a1, a2⟩ := ent_cells C1
      obtain ⟨d0, d1, d2⟩ := ent_cells C2
      have HF := Lib.hid (K.out wc hbx).2
      clear C1 C2
      go_wp2_with fail
      go_ret
      exact ⟨by simp, HF.out⟩
  · have h1 : (1024 : Int) < (S.length : Int) := by omega
    go_wp2_with (go_at_call 12; refine (aliveP_any _ (HS.out.at K.out.now.2)).mono ?_; rintro e w1 ⟨rfl, bb⟩; replace K := Lib.hid (K.out.step bb); clear bb)
    go_ret
    exact ⟨rfl, K.out.now.2⟩
end Go.Proofs.YtgpmfkedcoiopaaGreatDoor

/-
  Merged: OpTake, OpTogg, OpTexs, OpShif, OpJoin, OpJoiw, OpDoMa, OpDoer.
-/
import Derived.Test.YtgpmfkedcoiopaaGreatDoorM14a
import Derived.Test.YtgpmfkedcoiopaaGreatDoorPushT
import Derived.Test.YtgpmfkedcoiopaaGreatDoorM06r
import Derived.Test.YtgpmfkedcoiopaaGreatDoorM12r
/-
  The document's taken: d, y and c: layer 14.
-/
namespace Go.Proofs.YtgpmfkedcoiopaaGreatDoor
open Go.RowKit
set_option maxRecDepth 100000

/-- the last store: a result into its variable -/
theorem out_end {w wr : World} {A B C : Option Addr} {l m q : List RunP} {g : Nat} {cs : Array Value} (hres : Blk wr g 47 cs) (hn : NoLab cs) (hb : Below w.heap.size w wr) (hg : w.heap.size ≤ g) (rA : Row wr wr.heap.size A (flatR l)) (rB : Row wr wr.heap.size B (flatR m)) (rC : Row wr wr.heap.size C (flatR q)) (us : List (Nat × Value)) :
    Row (setMany wr g us) (setMany wr g us).heap.size A (flatR l) ∧ Row (setMany wr g us) (setMany wr g us).heap.size B (flatR m) ∧ Row (setMany wr g us) (setMany wr g us).heap.size C (flatR q) ∧ Below w.heap.size w (setMany wr g us) :=
  ⟨(setMany_rowN (rowN_noLab rA (Nat.le_refl _) hres hn) us).row, (setMany_rowN (rowN_noLab rB (Nat.le_refl _) hres hn) us).row, (setMany_rowN (rowN_noLab rC (Nat.le_refl _) hres hn) us).row, setMany_below hb hg us⟩
/-- what is kept in taken -/
structure TakeK (w wr : World) (A A3 : Option Addr) (c : Nat) (S XS : List UInt8) (l xl : List RunP) (f t : Int) (b : Bool) : Prop where
  t5 : Blk wr w.heap.size 32 #[.string ⟨S.toArray⟩, .slice A l.length c]
  rg : Blk wr (w.heap.size + 1) 27 #[.int .i64 f, .int .i64 t, .bool b]
  res : Blk wr (w.heap.size + 1 + 1) 47 #[.int .i64 0, .string ⟨#[]⟩, .slice none 0 0, .string ⟨#[]⟩, .slice none 0 0, .string ⟨#[]⟩, .slice none 0 0, .bool false, .bool false, .int .i64 0]
  bel : Below w.heap.size w wr
  tS : Txu wr A S l
  tX : Txu wr A3 XS xl
section
variable {w wr w' : World} {A A3 : Option Addr} {c : Nat} {S XS : List UInt8} {l xl : List RunP} {f t : Int} {b : Bool}
theorem TakeK.step (h : TakeK w wr A A3 c S XS l xl f t b) (hb : Below wr.heap.size wr w') : TakeK w w' A A3 c S XS l xl f t b :=
  ⟨h.t5.below hb h.t5.lt, h.rg.below hb h.rg.lt, h.res.below hb h.res.lt, h.bel.trans (hb.mono h.bel.size), grow_txu h.tS _ hb, grow_txu h.tX _ hb⟩
theorem TakeK.many (h : TakeK w wr A A3 c S XS l xl f t b) {g T : Nat} {cs : Array Value} (hg : Blk wr g T cs) (hn : NoLab cs) (hlow : w.heap.size + 1 + 1 < g) (us : List (Nat × Value)) : TakeK w (setMany wr g us) A A3 c S XS l xl f t b :=
  ⟨setMany_far h.t5 (by omega) us, setMany_far h.rg (by omega) us, setMany_far h.res (by omega) us, setMany_below h.bel (by omega) us, setMany_txu h.tS hg hn us, setMany_txu h.tX hg hn us⟩
end
theorem row_step {w w' : World} {A : Option Addr} {xs : List Value} (h : Row w w.heap.size A xs) (hb : Below w.heap.size w w') : Row w' w'.heap.size A xs := (h.below hb).more hb.size
theorem row_many {w : World} {A : Option Addr} {l : List RunP} {g T : Nat} {cs : Array Value} (h : Row w w.heap.size A (flatR l)) (hg : Blk w g T cs) (hn : NoLab cs) (us : List (Nat × Value)) : Row (setMany w g us) (setMany w g us).heap.size A (flatR l) := (setMany_rowN (rowN_noLab h (Nat.le_refl _) hg hn) us).row
theorem txu_nil {w : World} : Txu w none [] [] := ⟨Nat.zero_le _, fun r hr => by simp at hr, Nat.zero_le _, .inl rfl⟩
theorem view_len (S : List UInt8) (l : List RunP) (y : Nat) : (viewOf S l y).1.length ≤ 4096 := by
  unfold viewOf
  split
  · next h => show (viewTo S (bytesOf l) y).length ≤ 4096; rw [viewTo_len (goodT_size h).2.2]; exact (goodT_size h).1
  · exact Nat.zero_le _
theorem turned_view (S : List UInt8) (l : List RunP) (y : Nat) (f e : Int) (X : List UInt8) (m : List RunP) (b : Bool) : (turnedM S l y f e X m b).1.2.length ≤ 4096 := by
  unfold turnedM
  split
  · exact Nat.zero_le _
  · split
    · exact view_len _ _ _
    · exact Nat.zero_le _
theorem out_nine {w : World} {g T : Nat} {v0 v1 v2 v3 v4 v5 v6 v7 v8 v9 : Value} (h : Blk w g T #[v0, v1, v2, v3, v4, v5, v6, v7, v8, v9]) (u : Value) : Blk (setMany w g [(9, u)]) g T #[v0, v1, v2, v3, v4, v5, v6, v7, v8, u] := by
  have := setMany_blk h [(9, u)]
  simpa using this
theorem kn_outD {w w2 : World} {T : TypeId} {v0 v1 v2 v3 v4 v5 v6 v7 v8 v9 : Value} (h : Below ((w.drew).alloc (.cells #[v0, v1, v2, v3, v4, v5, v6, v7, v8, v9] T)).heap.size ((w.drew).alloc (.cells #[v0, v1, v2, v3, v4, v5, v6, v7, v8, v9] T)) w2) :
    Blk w2 w.heap.size T #[v0, v1, v2, v3, v4, v5, v6, v7, v8, v9] :=
  (show Blk ((w.drew).alloc (.cells #[v0, v1, v2, v3, v4, v5, v6, v7, v8, v9] T)) w.heap.size T #[v0, v1, v2, v3, v4, v5, v6, v7, v8, v9] from Blk.new w.drew T _).below h (by show w.heap.size < ((w.drew).alloc (.cells #[v0, v1, v2, v3, v4, v5, v6, v7, v8, v9] T)).heap.size; simp)
set_option maxHeartbeats 8000000 in
theorem refPTaken_any (A : Option Addr) (c : Nat) (S : List UInt8) (l : List RunP) (V : List UInt8) (y : Nat) (hy : y < 18446744073709551616) (op f t : Int) (b : Bool) (F E : Nat) (hp : bytesM V f t b = ((F : Int), (E : Int))) (hFE : F ≤ E) (hE : E ≤ V.length) (hV : V.length ≤ 4096) (w : World) (h : Txu w A S l) :
    Calls Tryz.prog 57 #[.agg #[.string ⟨S.toArray⟩, .slice A l.length c], .string ⟨V.toArray⟩, .int .u64 (y : Nat), .int .i64 op, .agg #[.int .i64 f, .int .i64 t, .bool b]] w (GivesO w (takenM S l V y op f t b)) := by
  obtain ⟨v, hv⟩ : ∃ v, takenM S l V y op f t b = v := ⟨_, rfl⟩
  rw [hv]
  unfold takenM at hv
  have HBY := Lib.hid (fun wx => refPBytes_any V (by omega) f t b wx)
  rw [hp] at hv HBY
  obtain ⟨x, hx⟩ : ∃ x, cutOf S l (F : Int) (E : Int) = x := ⟨_, rfl⟩
  have hok := okT_cut (S := S) (l := l) h.hf (F : Int) (E : Int)
  rw [hx] at hok
  dsimp only at hv
  rw [hx, Int.toNat_natCast, Int.toNat_natCast] at hv
  have HX := Lib.hid hx
  have HOK := Lib.hid hok
  obtain ⟨⟨XS, xl⟩, xn⟩ := x
  obtain ⟨U, hU⟩ : ∃ U, (V.drop F).take (E - F) = U := ⟨_, rfl⟩
  have hUl : U.length ≤ 4096 := by rw [← hU, List.length_take, List.length_drop]; omega
  have HSL : Hid (({ data := V.toArray } : ByteArray).extract F E = ⟨U.toArray⟩) := by show _ = _; rw [text_cut, hU]
  rw [hU] at hv
  have HC := Lib.hid (fun wx => refCount_any U (by omega) wx)
  obtain ⟨wd, hwd⟩ : ∃ wd, (b || decide (1 < countL U)) = wd := ⟨_, rfl⟩
  rw [hwd] at hv
  have HV := Lib.hid hv
  have HWD := Lib.hid hwd
  clear hx hok hU hwd hv hp
  dsimp only at HV
  have BX := Lib.hid (boxesE3 w 32 27 47 #[.string ⟨S.toArray⟩, .slice A l.length c] #[.int .i64 f, .int .i64 t, .bool b] #[.int .i64 0, .string ⟨#[]⟩, .slice none 0 0, .string ⟨#[]⟩, .slice none 0 0, .string ⟨#[]⟩, .slice none 0 0, .bool false, .bool false, .int .i64 0])
  have K := Lib.hid (BX.out.and ((grow_txu h).step BX.out.now.2.2.2))
  have LS := Lib.hid (And.intro h.hf h.hl)
  clear h BX
  go_enter Tryz.func57, Tryz.ntmps57
  go_upto_region 1 with fail
  generalize ((w.alloc (.cells #[.string ⟨S.toArray⟩, .slice A l.length c] 32)).alloc (.cells #[.int .i64 f, .int .i64 t, .bool b] 27)).alloc (.cells #[.int .i64 0, .string ⟨#[]⟩, .slice none 0 0, .string ⟨#[]⟩, .slice none 0 0, .string ⟨#[]⟩, .slice none 0 0, .bool false, .bool false, .int .i64 0] 47) = wx at *
  obtain ⟨y0, y1⟩ := txt_cells K.out.now.1.1
  obtain ⟨⟨z0, z1, z2, _⟩, _⟩ := rng_var K.out.now.1.2.1
  go_upto_region 3 with (first
    | (go_at_call 107; refine (HBY.out _).mono ?_; rintro e w1 ⟨rfl, bb⟩; replace K := Lib.hid (K.out.step bb); clear y0 y1 z0 z1 z2 bb; obtain ⟨y0, y1⟩ := txt_cells K.out.now.1.1)
    | (go_at_call 108; refine (refTCut_any A c _ S l (F : Int) (E : Int) _ (Nat.le_refl _) K.out.now.2).mono ?_; rw [HX.out]; rintro e w2 ⟨A3, c3, rfl, own, bb⟩; dsimp only at own ⊢; replace K := Lib.hid ((K.out.step bb).var (c := c3) (HOK.out.txt (Row.of_own own))); clear y0 y1 bb own))
  have HG14 : Hid (∃ g14, g14 = w2.heap.size) := ⟨_, rfl⟩
  generalize hg14 : w2.heap.size = g14 at *
  generalize w2.alloc (.cells #[.string ⟨XS.toArray⟩, .slice A3 xl.length c3] 32) = wb at *
  clear hg14 HG14
  go_cut [16] (fun s16 wx => ∃ g16 : Nat, s16 = .pointer (some ⟨g16, 0, none⟩) ∧ Blk wx g16 47 #[.int .i64 0, .string ⟨#[]⟩, .slice none 0 0, .string ⟨#[]⟩, .slice none 0 0, .string ⟨XS.toArray⟩, .slice A3 xl.length c3, .bool b, .bool wd, .int .i64 (F : Int)] ∧ wb.heap.size ≤ g16 ∧ Below wb.heap.size wb wx)
  case first =>
    have hb0 : Below wb.heap.size wb wb := Below.refl _ _
    have x1 : (0 : Int) ≤ (F : Int) := by omega
    have x2 : (F : Int) ≤ (E : Int) := by omega
    have x3 : (E : Int) ≤ (V.length : Int) := by omega
    have KS : Hid (∀ w', Below wb.heap.size wb w' → (((w'.cell? ⟨g14, 0, none⟩ = some (.string ⟨XS.toArray⟩) ∧ w'.cell? ⟨g14, 1, none⟩ = some (.slice A3 xl.length c3)) ∧ w'.cell? ⟨w.heap.size + 1, 2, none⟩ = some (.bool b)) ∧ Below wb.heap.size wb w')) := fun w' hb => by
      have k := K.out w' hb
      obtain ⟨⟨_, _, r2, _⟩, _⟩ := rng_var k.2.1.2.1
      exact ⟨⟨txt_cells k.1.1, r2⟩, hb⟩
    have TC : Hid (∀ w', Below wb.heap.size wb w' → Calls Tryz.prog 106 #[.string (({ data := V.toArray } : ByteArray).extract F E)] w' fun e w'' => e = .returned (.int .i64 (countL U : Nat)) ∧ Below wb.heap.size wb w'' ∧ Below w'.heap.size w' w'') := fun w' hb => by
      rw [HSL.out]
      refine (HC.out w').mono ?_
      rintro e w2 ⟨rfl, bb⟩
      exact ⟨rfl, hb.trans (bb.mono hb.size), bb⟩
    cases b with
    | true =>
      obtain rfl : wd = true := by rw [← HWD.out]; rfl
      refine wp_region_held_drew (S := fun w' => (((w'.cell? ⟨g14, 0, none⟩ = some (.string ⟨XS.toArray⟩) ∧ w'.cell? ⟨g14, 1, none⟩ = some (.slice A3 xl.length c3)) ∧ w'.cell? ⟨w.heap.size + 1, 2, none⟩ = some (.bool true)) ∧ Below wb.heap.size wb w')) (by kernel_rfl) (KS.out _ (below_dr hb0)) (fun hHeld => ?_)
      refine wpAnyH_take (i := 0) (v := ?_) rfl (by kernel_rfl) (by kernel_rfl) (by kernel_rfl) (fun _ _ _ h => h) (Or.inl ⟨by rfl, ?_⟩) (by assumption) ?_
      rotate_left
      · (intro w hSw; obtain ⟨⟨⟨q0, q1⟩, q2⟩, _⟩ := hSw; go_simp; (try with_reducible rfl))
      (try simp only [List.getElem_toArray, List.getElem_cons_zero, Act.put, List.setIfInBounds_toArray, List.set_cons_zero, List.set_cons_succ])
      refine wpAnyH_take (i := 1) (v := ?_) rfl (by kernel_rfl) (by kernel_rfl) (by kernel_rfl) (fun _ _ _ h => h) (Or.inl ⟨by rfl, ?_⟩) (by assumption) ?_
      rotate_left
      · (intro w hSw; obtain ⟨⟨⟨q0, q1⟩, q2⟩, _⟩ := hSw; go_simp; (try with_reducible rfl))
      (try simp only [List.getElem_toArray, List.getElem_cons_zero, List.getElem_cons_succ, Act.put, List.setIfInBounds_toArray, List.set_cons_zero, List.set_cons_succ])
      refine wpAnyH_take (i := 2) (v := ?_) rfl (by kernel_rfl) (by kernel_rfl) (by kernel_rfl) (fun _ _ _ h => h) (Or.inl ⟨by rfl, ?_⟩) (by assumption) ?_
      rotate_left
      · (intro w hSw; obtain ⟨⟨⟨q0, q1⟩, q2⟩, _⟩ := hSw; go_simp; (try with_reducible rfl))
      (try simp only [List.getElem_toArray, List.getElem_cons_zero, List.getElem_cons_succ, Act.put, List.setIfInBounds_toArray, List.set_cons_zero, List.set_cons_succ])
      refine wpAnyH_take (i := 3) (v := ?_) rfl (by kernel_rfl) (by kernel_rfl) (by kernel_rfl) (fun _ _ _ h => h) (Or.inl ⟨by rfl, ?_⟩) (by assumption) ?_
      rotate_left
      · (intro w hSw; obtain ⟨⟨⟨q0, q1⟩, q2⟩, _⟩ := hSw; go_simp; (try with_reducible rfl))
      (try simp only [List.getElem_toArray, List.getElem_cons_zero, List.getElem_cons_succ, Act.put, List.setIfInBounds_toArray, List.set_cons_zero, List.set_cons_succ])
      refine wpAnyH_take (i := 4) (v := ?_) rfl (by kernel_rfl) (by kernel_rfl) (by kernel_rfl) (fun _ _ _ h => h) (Or.inl ⟨by rfl, ?_⟩) (by assumption) ?_
      rotate_left
      · (intro w hSw; obtain ⟨⟨⟨q0, q1⟩, q2⟩, _⟩ := hSw; go_simp; (try with_reducible rfl))
      (try simp only [List.getElem_toArray, List.getElem_cons_zero, List.getElem_cons_succ, Act.put, List.setIfInBounds_toArray, List.set_cons_zero, List.set_cons_succ])
      refine wpAnyH_take (i := 5) (v := ?_) rfl (by kernel_rfl) (by kernel_rfl) (by kernel_rfl) (fun _ _ _ h => h) (Or.inl ⟨by rfl, ?_⟩) (by assumption) ?_
      rotate_left
      · (intro w hSw; obtain ⟨⟨⟨q0, q1⟩, q2⟩, _⟩ := hSw; go_simp; (try with_reducible rfl))
      (try simp only [List.getElem_toArray, List.getElem_cons_zero, List.getElem_cons_succ, Act.put, List.setIfInBounds_toArray, List.set_cons_zero, List.set_cons_succ])
      refine wpAnyH_take (i := 6) (v := ?_) rfl (by kernel_rfl) (by kernel_rfl) (by kernel_rfl) (fun _ _ _ h => h) (Or.inl ⟨by rfl, ?_⟩) (by assumption) ?_
      rotate_left
      · (intro w hSw; obtain ⟨⟨⟨q0, q1⟩, q2⟩, _⟩ := hSw; go_simp; (try with_reducible rfl))
      (try simp only [List.getElem_toArray, List.getElem_cons_zero, List.getElem_cons_succ, Act.put, List.setIfInBounds_toArray, List.set_cons_zero, List.set_cons_succ])
      refine wpAnyH_take (i := 7) (v := undef) rfl (by kernel_rfl) (by kernel_rfl) (by kernel_rfl) (fun _ _ _ h => h) (Or.inr ⟨by rfl, rfl⟩) (by assumption) ?_
      (try simp only [List.getElem_toArray, List.getElem_cons_zero, List.getElem_cons_succ, Act.put, List.setIfInBounds_toArray, List.set_cons_zero, List.set_cons_succ])
      refine wpAnyH_take (i := 8) (v := undef) rfl (by kernel_rfl) (by kernel_rfl) (by kernel_rfl) (fun _ _ _ h => h) (Or.inr ⟨by rfl, rfl⟩) (by assumption) ?_
      (try simp only [List.getElem_toArray, List.getElem_cons_zero, List.getElem_cons_succ, Act.put, List.setIfInBounds_toArray, List.set_cons_zero, List.set_cons_succ])
      refine wpAnyH_take (i := 9) (v := undef) rfl (by kernel_rfl) (by kernel_rfl) (by kernel_rfl) (fun _ _ _ h => h) (Or.inr ⟨by rfl, rfl⟩) (by assumption) ?_
      (try simp only [List.getElem_toArray, List.getElem_cons_zero, List.getElem_cons_succ, Act.put, List.setIfInBounds_toArray, List.set_cons_zero, List.set_cons_succ])
      refine wpAnyH_take (i := 10) (v := undef) rfl (by kernel_rfl) (by kernel_rfl) (by kernel_rfl) (fun _ _ _ h => h) (Or.inr ⟨by rfl, rfl⟩) (by assumption) ?_
      (try simp only [List.getElem_toArray, List.getElem_cons_zero, List.getElem_cons_succ, Act.put, List.setIfInBounds_toArray, List.set_cons_zero, List.set_cons_succ])
      refine wpAnyH_take (i := 11) (v := undef) rfl (by kernel_rfl) (by kernel_rfl) (by kernel_rfl) (fun _ _ _ h => h) (Or.inr ⟨by rfl, rfl⟩) (by assumption) ?_
      (try simp only [List.getElem_toArray, List.getElem_cons_zero, List.getElem_cons_succ, Act.put, List.setIfInBounds_toArray, List.set_cons_zero, List.set_cons_succ])
      refine wpAnyH_take (i := 12) (v := undef) rfl (by kernel_rfl) (by kernel_rfl) (by kernel_rfl) (fun _ _ _ h => h) (Or.inr ⟨by rfl, rfl⟩) (by assumption) ?_
      (try simp only [List.getElem_toArray, List.getElem_cons_zero, List.getElem_cons_succ, Act.put, List.setIfInBounds_toArray, List.set_cons_zero, List.set_cons_succ])
      refine wpAnyH_take (i := 13) (v := ?_) rfl (by kernel_rfl) (by kernel_rfl) (by kernel_rfl) (fun _ _ _ h => h) (Or.inl ⟨by rfl, ?_⟩) (by assumption) ?_
      rotate_left
      · (intro w hSw; obtain ⟨⟨⟨q0, q1⟩, q2⟩, _⟩ := hSw; go_simp; (try with_reducible rfl))
      (try simp only [List.getElem_toArray, List.getElem_cons_zero, List.getElem_cons_succ, Act.put, List.setIfInBounds_toArray, List.set_cons_zero, List.set_cons_succ])
      refine wpAnyH_take (i := 14) (v := ?_) rfl (by kernel_rfl) (by kernel_rfl) (by kernel_rfl) (fun _ _ _ h => h) (Or.inl ⟨by rfl, ?_⟩) (by assumption) ?_
      rotate_left
      · (intro w hSw; obtain ⟨⟨⟨q0, q1⟩, q2⟩, _⟩ := hSw; go_simp; (try with_reducible rfl))
      (try simp only [List.getElem_toArray, List.getElem_cons_zero, List.getElem_cons_succ, Act.put, List.setIfInBounds_toArray, List.set_cons_zero, List.set_cons_succ])
      refine wpAnyH_take (i := 15) (v := ?_) rfl (by kernel_rfl) (by kernel_rfl) (by kernel_rfl) (fun _ _ _ h => h) (Or.inl ⟨by rfl, ?_⟩) (by assumption) ?_
      rotate_left
      · (intro w hSw; obtain ⟨⟨⟨q0, q1⟩, q2⟩, _⟩ := hSw; go_simp; (try with_reducible rfl))
      (try simp only [List.getElem_toArray, List.getElem_cons_zero, List.getElem_cons_succ, Act.put, List.setIfInBounds_toArray, List.set_cons_zero, List.set_cons_succ])
      refine wpAnyH_ready (rs := [16]) (by kernel_rfl) (by simp) ?_
      refine AllReadyH.cons rfl (fun K hK => ?_) AllReadyH.nil
      go_simp
      refine hK.out _ _ (KS.out _ (below_al (below_dr hb0) (Nat.le_refl _))) (fun hHeld => ?_)
      clear hK K
      (try simp only [List.getElem_toArray, List.getElem_cons_zero, List.getElem_cons_succ, Act.put, List.setIfInBounds_toArray, List.set_cons_zero, List.set_cons_succ])
      refine wpAnyH_ready (rs := [17]) (by kernel_rfl) (by simp) ?_
      refine AllReadyH.cons rfl (fun K hK => ?_) AllReadyH.nil
      go_simp
      refine hK.out _ _ (KS.out _ (below_al (below_dr hb0) (Nat.le_refl _))) (fun hHeld => ?_)
      clear hK K
      (try simp only [List.getElem_toArray, List.getElem_cons_zero, List.getElem_cons_succ, Act.put, List.setIfInBounds_toArray, List.set_cons_zero, List.set_cons_succ])
      refine wpAnyH_done (by kernel_rfl) ?_ _
      go_wp2_with fail
      go_meet
      exact ⟨_, rfl, Blk.new _ _ _, Nat.le_refl _, below_al (below_dr hb0) (Nat.le_refl _)⟩
    | false =>
      have hwd : decide (1 < countL U) = wd := by have := HWD.out; simpa using this
      have hwd2 : decide ((1 : Int) < (countL U : Int)) = wd := by rw [← hwd]; exact decide_eq_decide.2 (by omega)
      refine wp_region_held_drew (S := fun w' => (((w'.cell? ⟨g14, 0, none⟩ = some (.string ⟨XS.toArray⟩) ∧ w'.cell? ⟨g14, 1, none⟩ = some (.slice A3 xl.length c3)) ∧ w'.cell? ⟨w.heap.size + 1, 2, none⟩ = some (.bool false)) ∧ Below wb.heap.size wb w')) (by kernel_rfl) (KS.out _ (below_dr hb0)) (fun hHeld => ?_)
      refine wpAnyH_take (i := 0) (v := ?_) rfl (by kernel_rfl) (by kernel_rfl) (by kernel_rfl) (fun _ _ _ h => h) (Or.inl ⟨by rfl, ?_⟩) (by assumption) ?_
      rotate_left
      · (intro w hSw; obtain ⟨⟨⟨q0, q1⟩, q2⟩, _⟩ := hSw; go_simp; (try with_reducible rfl))
      (try simp only [List.getElem_toArray, List.getElem_cons_zero, Act.put, List.setIfInBounds_toArray, List.set_cons_zero, List.set_cons_succ])
      refine wpAnyH_take (i := 1) (v := ?_) rfl (by kernel_rfl) (by kernel_rfl) (by kernel_rfl) (fun _ _ _ h => h) (Or.inl ⟨by rfl, ?_⟩) (by assumption) ?_
      rotate_left
      · (intro w hSw; obtain ⟨⟨⟨q0, q1⟩, q2⟩, _⟩ := hSw; go_simp; (try with_reducible rfl))
      (try simp only [List.getElem_toArray, List.getElem_cons_zero, List.getElem_cons_succ, Act.put, List.setIfInBounds_toArray, List.set_cons_zero, List.set_cons_succ])
      refine wpAnyH_take (i := 2) (v := ?_) rfl (by kernel_rfl) (by kernel_rfl) (by kernel_rfl) (fun _ _ _ h => h) (Or.inl ⟨by rfl, ?_⟩) (by assumption) ?_
      rotate_left
      · (intro w hSw; obtain ⟨⟨⟨q0, q1⟩, q2⟩, _⟩ := hSw; go_simp; (try with_reducible rfl))
      (try simp only [List.getElem_toArray, List.getElem_cons_zero, List.getElem_cons_succ, Act.put, List.setIfInBounds_toArray, List.set_cons_zero, List.set_cons_succ])
      refine wpAnyH_take (i := 3) (v := ?_) rfl (by kernel_rfl) (by kernel_rfl) (by kernel_rfl) (fun _ _ _ h => h) (Or.inl ⟨by rfl, ?_⟩) (by assumption) ?_
      rotate_left
      · (intro w hSw; obtain ⟨⟨⟨q0, q1⟩, q2⟩, _⟩ := hSw; go_simp; (try with_reducible rfl))
      (try simp only [List.getElem_toArray, List.getElem_cons_zero, List.getElem_cons_succ, Act.put, List.setIfInBounds_toArray, List.set_cons_zero, List.set_cons_succ])
      refine wpAnyH_take (i := 4) (v := ?_) rfl (by kernel_rfl) (by kernel_rfl) (by kernel_rfl) (fun _ _ _ h => h) (Or.inl ⟨by rfl, ?_⟩) (by assumption) ?_
      rotate_left
      · (intro w hSw; obtain ⟨⟨⟨q0, q1⟩, q2⟩, _⟩ := hSw; go_simp; (try with_reducible rfl))
      (try simp only [List.getElem_toArray, List.getElem_cons_zero, List.getElem_cons_succ, Act.put, List.setIfInBounds_toArray, List.set_cons_zero, List.set_cons_succ])
      refine wpAnyH_take (i := 5) (v := ?_) rfl (by kernel_rfl) (by kernel_rfl) (by kernel_rfl) (fun _ _ _ h => h) (Or.inl ⟨by rfl, ?_⟩) (by assumption) ?_
      rotate_left
      · (intro w hSw; obtain ⟨⟨⟨q0, q1⟩, q2⟩, _⟩ := hSw; go_simp; (try with_reducible rfl))
      (try simp only [List.getElem_toArray, List.getElem_cons_zero, List.getElem_cons_succ, Act.put, List.setIfInBounds_toArray, List.set_cons_zero, List.set_cons_succ])
      refine wpAnyH_take (i := 6) (v := ?_) rfl (by kernel_rfl) (by kernel_rfl) (by kernel_rfl) (fun _ _ _ h => h) (Or.inl ⟨by rfl, ?_⟩) (by assumption) ?_
      rotate_left
      · (intro w hSw; obtain ⟨⟨⟨q0, q1⟩, q2⟩, _⟩ := hSw; go_simp; (try with_reducible rfl))
      (try simp only [List.getElem_toArray, List.getElem_cons_zero, List.getElem_cons_succ, Act.put, List.setIfInBounds_toArray, List.set_cons_zero, List.set_cons_succ])
      refine wpAnyH_take (i := 7) (v := ?_) rfl (by kernel_rfl) (by kernel_rfl) (by kernel_rfl) (fun _ _ _ h => h) (Or.inl ⟨by rfl, ?_⟩) (by assumption) ?_
      rotate_left
      · (intro w hSw; obtain ⟨⟨⟨q0, q1⟩, q2⟩, _⟩ := hSw; go_simp; (try with_reducible rfl))
      (try simp only [List.getElem_toArray, List.getElem_cons_zero, List.getElem_cons_succ, Act.put, List.setIfInBounds_toArray, List.set_cons_zero, List.set_cons_succ])
      refine wpAnyH_take (i := 8) (v := ?_) rfl (by kernel_rfl) (by kernel_rfl) (by kernel_rfl) (fun _ _ _ h => h) (Or.inl ⟨by rfl, ?_⟩) (by assumption) ?_
      rotate_left
      · (intro w hSw; obtain ⟨⟨⟨q0, q1⟩, q2⟩, _⟩ := hSw; go_simp; (try with_reducible rfl))
      (try simp only [List.getElem_toArray, List.getElem_cons_zero, List.getElem_cons_succ, Act.put, List.setIfInBounds_toArray, List.set_cons_zero, List.set_cons_succ])
      refine wpAnyH_take (i := 9) (v := ?_) rfl (by kernel_rfl) (by kernel_rfl) (by kernel_rfl) (fun _ _ _ h => h) (Or.inl ⟨by rfl, ?_⟩) (by assumption) ?_
      rotate_left
      · (intro w hSw; obtain ⟨⟨⟨q0, q1⟩, q2⟩, _⟩ := hSw; go_simp; (try with_reducible rfl))
      (try simp only [List.getElem_toArray, List.getElem_cons_zero, List.getElem_cons_succ, Act.put, List.setIfInBounds_toArray, List.set_cons_zero, List.set_cons_succ])
      refine wpAnyH_take (i := 10) (v := ?_) rfl (by kernel_rfl) (by kernel_rfl) (by kernel_rfl) (fun _ _ _ h => h) (Or.inl ⟨by rfl, ?_⟩) (by assumption) ?_
      rotate_left
      · (intro w hSw; obtain ⟨⟨⟨q0, q1⟩, q2⟩, _⟩ := hSw; go_simp; (try with_reducible rfl))
      (try simp only [List.getElem_toArray, List.getElem_cons_zero, List.getElem_cons_succ, Act.put, List.setIfInBounds_toArray, List.set_cons_zero, List.set_cons_succ])
      refine wpAnyH_take (i := 14) (v := ?_) rfl (by kernel_rfl) (by kernel_rfl) (by kernel_rfl) (fun _ _ _ h => h) (Or.inl ⟨by rfl, ?_⟩) (by assumption) ?_
      rotate_left
      · (intro w hSw; obtain ⟨⟨⟨q0, q1⟩, q2⟩, _⟩ := hSw; go_simp; (try with_reducible rfl))
      (try simp only [List.getElem_toArray, List.getElem_cons_zero, List.getElem_cons_succ, Act.put, List.setIfInBounds_toArray, List.set_cons_zero, List.set_cons_succ])
      refine wpAnyH_ready (rs := [11, 16]) (by kernel_rfl) (by simp) ?_
      refine AllReadyH.cons rfl (fun K hK => ?_) (AllReadyH.cons rfl (fun K hK => ?_) AllReadyH.nil)
      · go_simp
        refine (TC.out _ (below_dr hb0)).mono ?_
        rintro ee w9 ⟨rfl, hbx, hby⟩
        (try go_wp2_with fail)
        refine hK.out _ _ (KS.out _ hbx) (fun hHeld => ?_)
        clear hK K
        (try simp only [List.getElem_toArray, List.getElem_cons_zero, List.getElem_cons_succ, Act.put, List.setIfInBounds_toArray, List.set_cons_zero, List.set_cons_succ])
        refine wpAnyH_take (i := 12) (v := ?_) rfl (by kernel_rfl) (by kernel_rfl) (by kernel_rfl) (fun _ _ _ h => h) (Or.inl ⟨by rfl, ?_⟩) (by assumption) ?_
        rotate_left
        · (intro w hSw; obtain ⟨⟨⟨q0, q1⟩, q2⟩, _⟩ := hSw; go_simp; (try with_reducible rfl))
        (try simp only [List.getElem_toArray, List.getElem_cons_zero, List.getElem_cons_succ, Act.put, List.setIfInBounds_toArray, List.set_cons_zero, List.set_cons_succ])
        refine wpAnyH_take (i := 13) (v := ?_) rfl (by kernel_rfl) (by kernel_rfl) (by kernel_rfl) (fun _ _ _ h => h) (Or.inl ⟨by rfl, ?_⟩) (by assumption) ?_
        rotate_left
        · (intro w hSw; obtain ⟨⟨⟨q0, q1⟩, q2⟩, _⟩ := hSw; go_simp; (try with_reducible rfl))
        (try simp only [List.getElem_toArray, List.getElem_cons_zero, List.getElem_cons_succ, Act.put, List.setIfInBounds_toArray, List.set_cons_zero, List.set_cons_succ])
        refine wpAnyH_take (i := 15) (v := ?_) rfl (by kernel_rfl) (by kernel_rfl) (by kernel_rfl) (fun _ _ _ h => h) (Or.inl ⟨by rfl, ?_⟩) (by assumption) ?_
        rotate_left
        · (intro w hSw; obtain ⟨⟨⟨q0, q1⟩, q2⟩, _⟩ := hSw; go_simp; (try with_reducible rfl))
        (try simp only [List.getElem_toArray, List.getElem_cons_zero, List.getElem_cons_succ, Act.put, List.setIfInBounds_toArray, List.set_cons_zero, List.set_cons_succ])
        refine wpAnyH_ready (rs := [16]) (by kernel_rfl) (by simp) ?_
        refine AllReadyH.cons rfl (fun K hK => ?_) AllReadyH.nil
        go_simp
        refine hK.out _ _ (KS.out _ (below_al (hbx) (Nat.le_refl _))) (fun hHeld => ?_)
        clear hK K
        (try simp only [List.getElem_toArray, List.getElem_cons_zero, List.getElem_cons_succ, Act.put, List.setIfInBounds_toArray, List.set_cons_zero, List.set_cons_succ])
        refine wpAnyH_ready (rs := [17]) (by kernel_rfl) (by simp) ?_
        refine AllReadyH.cons rfl (fun K hK => ?_) AllReadyH.nil
        go_simp
        refine hK.out _ _ (KS.out _ (below_al hbx (Nat.le_refl _))) (fun hHeld => ?_)
        clear hK K
        (try simp only [List.getElem_toArray, List.getElem_cons_zero, List.getElem_cons_succ, Act.put, List.setIfInBounds_toArray, List.set_cons_zero, List.set_cons_succ])
        refine wpAnyH_done (by kernel_rfl) ?_ _
        go_wp2_with fail
        go_meet
        exact ⟨_, rfl, Blk.new _ _ _, hbx.size, below_al hbx (Nat.le_refl _)⟩
      · go_simp
        refine hK.out _ _ (KS.out _ (below_al (below_dr hb0) (Nat.le_refl _))) (fun hHeld => ?_)
        clear hK K
        (try simp only [List.getElem_toArray, List.getElem_cons_zero, List.getElem_cons_succ, Act.put, List.setIfInBounds_toArray, List.set_cons_zero, List.set_cons_succ])
        refine wpAnyH_ready (rs := [11]) (by kernel_rfl) (by simp) ?_
        refine AllReadyH.cons rfl (fun K hK => ?_) AllReadyH.nil
        go_simp
        refine (TC.out _ (below_al (below_dr hb0) (Nat.le_refl _))).mono ?_
        rintro ee w9 ⟨rfl, hbx, hby⟩
        (try go_wp2_with fail)
        refine hK.out _ _ (KS.out _ hbx) (fun hHeld => ?_)
        clear hK K
        (try simp only [List.getElem_toArray, List.getElem_cons_zero, List.getElem_cons_succ, Act.put, List.setIfInBounds_toArray, List.set_cons_zero, List.set_cons_succ])
        refine wpAnyH_take (i := 12) (v := ?_) rfl (by kernel_rfl) (by kernel_rfl) (by kernel_rfl) (fun _ _ _ h => h) (Or.inl ⟨by rfl, ?_⟩) (by assumption) ?_
        rotate_left
        · (intro w hSw; obtain ⟨⟨⟨q0, q1⟩, q2⟩, _⟩ := hSw; go_simp; (try with_reducible rfl))
        (try simp only [List.getElem_toArray, List.getElem_cons_zero, List.getElem_cons_succ, Act.put, List.setIfInBounds_toArray, List.set_cons_zero, List.set_cons_succ])
        refine wpAnyH_take (i := 13) (v := ?_) rfl (by kernel_rfl) (by kernel_rfl) (by kernel_rfl) (fun _ _ _ h => h) (Or.inl ⟨by rfl, ?_⟩) (by assumption) ?_
        rotate_left
        · (intro w hSw; obtain ⟨⟨⟨q0, q1⟩, q2⟩, _⟩ := hSw; go_simp; (try with_reducible rfl))
        (try simp only [List.getElem_toArray, List.getElem_cons_zero, List.getElem_cons_succ, Act.put, List.setIfInBounds_toArray, List.set_cons_zero, List.set_cons_succ])
        refine wpAnyH_take (i := 15) (v := ?_) rfl (by kernel_rfl) (by kernel_rfl) (by kernel_rfl) (fun _ _ _ h => h) (Or.inl ⟨by rfl, ?_⟩) (by assumption) ?_
        rotate_left
        · (intro w hSw; obtain ⟨⟨⟨q0, q1⟩, q2⟩, _⟩ := hSw; go_simp; (try with_reducible rfl))
        (try simp only [List.getElem_toArray, List.getElem_cons_zero, List.getElem_cons_succ, Act.put, List.setIfInBounds_toArray, List.set_cons_zero, List.set_cons_succ])
        have AB := kn_outD hby
        obtain ⟨⟨k0, k1, k2, k3, k4, k5, k6, k7, k8, k9⟩, k10, k11, k12, k13, k14, k15, k16, k17, k18, k19⟩ := out_cells AB
        have HAB := Lib.hid AB
        clear AB
        refine wpAnyH_ready (rs := [17]) (by kernel_rfl) (by simp) ?_
        refine AllReadyH.cons rfl (fun K hK => ?_) AllReadyH.nil
        go_simp
        refine hK.out _ _ (KS.out _ (setMany_below hbx (Nat.le_refl _) [(0, _), (1, _), (2, _), (3, _), (4, _), (5, _), (6, _), (7, _), (8, _), (9, _)])) (fun hHeld => ?_)
        clear hK K
        (try simp only [List.getElem_toArray, List.getElem_cons_zero, List.getElem_cons_succ, Act.put, List.setIfInBounds_toArray, List.set_cons_zero, List.set_cons_succ])
        refine wpAnyH_done (by kernel_rfl) ?_ _
        go_wp2_with fail
        go_meet
        exact ⟨_, rfl, out_ten HAB.out _ _ _ _ _ _ _ _ _ _, Nat.le_refl _, setMany_below hbx (Nat.le_refl _) [(0, _), (1, _), (2, _), (3, _), (4, _), (5, _), (6, _), (7, _), (8, _), (9, _)]⟩
  case rest =>
    obtain ⟨g16, rfl, hB, hlow, hbx⟩ := hcut
    have k := K.out wc hbx
    have T : Hid (TakeK w wc A A3 c S XS l xl f t b) := ⟨k.2.1.1, k.2.1.2.1, k.2.1.2.2.1, k.2.1.2.2.2, k.2.2, k.1.2⟩
    have LOW : Hid (w.heap.size + 1 + 1 < g16) := Nat.lt_of_lt_of_le (K.out.now.2.1.2.2.1).lt hlow
    have HB := Lib.hid hB
    clear k K hbx hB hlow HBY HC HSL HWD
    obtain ⟨⟨q0, q1, q2, q3, q4, q5, q6, q7, q8, q9⟩, p0, p1, p2, p3, p4, p5, p6, p7, p8, p9⟩ := out_cells HB.out
    by_cases ho : op = 121
    · subst ho
      have HV2 := Lib.hid ((if_pos rfl).symm.trans HV.out)
      go_upto_region 6 with fail
      have T2 := Lib.hid (T.out.many HB.out noLab_out LOW.out [(0, .int .i64 (F : Int)), (1, .string ⟨#[]⟩), (2, .slice none 0 0), (3, .string ⟨#[]⟩), (4, .slice none 0 0)])
      have HB2 : Hid (Blk (setMany wc g16 [(0, .int .i64 (F : Int)), (1, .string ⟨#[]⟩), (2, .slice none 0 0), (3, .string ⟨#[]⟩), (4, .slice none 0 0)]) g16 47 #[.int .i64 (F : Int), .string ⟨#[]⟩, .slice none 0 0, .string ⟨#[]⟩, .slice none 0 0, .string ⟨XS.toArray⟩, .slice A3 xl.length c3, .bool b, .bool wd, .int .i64 (F : Int)]) := out_five HB.out _ _ _ _ _
      change Code.wp _ _ _ _ (setMany wc g16 [(0, .int .i64 (F : Int)), (1, .string ⟨#[]⟩), (2, .slice none 0 0), (3, .string ⟨#[]⟩), (4, .slice none 0 0)])
      generalize setMany wc g16 [(0, .int .i64 (F : Int)), (1, .string ⟨#[]⟩), (2, .slice none 0 0), (3, .string ⟨#[]⟩), (4, .slice none 0 0)] = wd2 at *
      clear q0 q1 q2 q3 q4 q5 q6 q7 q8 q9 p0 p1 p2 p3 p4 p5 p6 p7 p8 p9
      obtain ⟨⟨r0, r1, r2, r3, r4, r5, r6, r7, r8, r9⟩, t0, t1, t2, t3, t4, t5, t6, t7, t8, t9⟩ := out_cells T2.out.res
      obtain ⟨⟨q0, q1, q2, q3, q4, q5, q6, q7, q8, q9⟩, _⟩ := out_cells HB2.out
      go_wp2_with fail
      have EE := out_end (A := none) (B := none) (C := A3) (l := []) (m := []) (q := xl) T2.out.res noLab_out T2.out.bel (by omega) (.inl rfl) (.inl rfl) T2.out.tX.row [(0, .int .i64 (F : Int)), (1, .string ⟨#[]⟩), (2, .slice none 0 0), (3, .string ⟨#[]⟩), (4, .slice none 0 0), (5, .string ⟨XS.toArray⟩), (6, .slice A3 xl.length c3), (7, .bool b), (8, .bool wd), (9, .int .i64 (F : Int))]
      have EB : Blk (setMany wd2 (w.heap.size + 1 + 1) [(0, .int .i64 (F : Int)), (1, .string ⟨#[]⟩), (2, .slice none 0 0), (3, .string ⟨#[]⟩), (4, .slice none 0 0), (5, .string ⟨XS.toArray⟩), (6, .slice A3 xl.length c3), (7, .bool b), (8, .bool wd), (9, .int .i64 (F : Int))]) (w.heap.size + 1 + 1) 47 #[.int .i64 (F : Int), .string ⟨#[]⟩, .slice none 0 0, .string ⟨#[]⟩, .slice none 0 0, .string ⟨XS.toArray⟩, .slice A3 xl.length c3, .bool b, .bool wd, .int .i64 (F : Int)] := out_ten T2.out.res _ _ _ _ _ _ _ _ _ _
      change bodyPost _ _ _ _ _ (setMany wd2 (w.heap.size + 1 + 1) [(0, .int .i64 (F : Int)), (1, .string ⟨#[]⟩), (2, .slice none 0 0), (3, .string ⟨#[]⟩), (4, .slice none 0 0), (5, .string ⟨XS.toArray⟩), (6, .slice A3 xl.length c3), (7, .bool b), (8, .bool wd), (9, .int .i64 (F : Int))])
      generalize setMany wd2 (w.heap.size + 1 + 1) [(0, .int .i64 (F : Int)), (1, .string ⟨#[]⟩), (2, .slice none 0 0), (3, .string ⟨#[]⟩), (4, .slice none 0 0), (5, .string ⟨XS.toArray⟩), (6, .slice A3 xl.length c3), (7, .bool b), (8, .bool wd), (9, .int .i64 (F : Int))] = wz at *
      refine ret_out rfl _ _ (w.heap.size + 1 + 1) #[.int .i64 (F : Int), .string ⟨#[]⟩, .slice none 0 0, .string ⟨#[]⟩, .slice none 0 0, .string ⟨XS.toArray⟩, .slice A3 xl.length c3, .bool b, .bool wd, .int .i64 (F : Int)] rfl rfl EB rfl ?_
      rw [← HV2.out]
      exact ⟨none, 0, none, 0, A3, c3, rfl, EE.1, EE.2.1, EE.2.2.1, EE.2.2.2⟩
    · have ho1 : (op == 121) = false := by rw [beq_eq_false_iff_ne]; exact ho
      have HV1 := Lib.hid ((if_neg ho).symm.trans HV.out)
      clear HV
      clear q0 q1 q2 q3 q4 q5 q6 q7 q8 q9 p0 p1 p2 p3 p4 p5 p6 p7 p8 p9
      by_cases hd : op = 100 ∧ b = true
      · have HV2 := Lib.hid ((if_pos hd).symm.trans HV1.out)
        clear HV1
        obtain ⟨rfl, rfl⟩ := hd
        have HW := Lib.hid (fun wx => refWhole_any V (by omega) f t wx)
        generalize wholeL V f t = wl at *
        obtain ⟨⟨fr, wt⟩, er⟩ := wl
        dsimp only at HV2
        obtain ⟨tm, htm⟩ : ∃ tm, turnedM S l y (fr : Nat) (wt : Nat) [] [] true = tm := ⟨_, rfl⟩
        have hWl := turned_view S l y (fr : Nat) (wt : Nat) [] [] true
        rw [htm] at HV2 hWl
        have HTM := Lib.hid htm
        clear htm
        obtain ⟨⟨⟨a, ES, el, EX, em⟩, W⟩, n⟩ := tm
        dsimp only at HV2 hWl
        have HFi := Lib.hid (fun wx => refFirst_any W (by omega) f wx)
        generalize firstL W f = fi at *
        obtain ⟨⟨z0, z1, z2, _, _, _⟩, _⟩ := rng_var T.out.rg
        go_upto_region 9 with (go_at_call 109; refine (HW.out _).mono ?_; rintro ee w8 ⟨rfl, bb⟩; have T8 := Lib.hid (T.out.step bb); have HB8 := Lib.hid (HB.out.below bb HB.out.lt); clear bb)
        clear z0 z1 z2
        obtain ⟨y0, y1⟩ := txt_cells T8.out.t5
        go_upto_region 10 with (go_at_call 73; refine (refPTurned_any A none c 0 S l y hy (fr : Nat) (wt : Nat) [] [] true _ T8.out.tS txu_nil).mono ?_; rw [HTM.out]; rintro ee w3 ⟨A4, c4, B4, d4, rfl, rA, rB, bb⟩; dsimp only at rA rB ⊢; have T3 := Lib.hid ((T8.out.step bb).step ((Below.refl _ _).alloc (Nat.le_refl _) (.cells #[.int .i64 a, .string ⟨ES.toArray⟩, .slice A4 el.length c4, .string ⟨EX.toArray⟩, .slice B4 em.length d4] 41))); have RA := Lib.hid (row_step rA ((Below.refl _ _).alloc (Nat.le_refl _) (.cells #[.int .i64 a, .string ⟨ES.toArray⟩, .slice A4 el.length c4, .string ⟨EX.toArray⟩, .slice B4 em.length d4] 41))); have RB := Lib.hid (row_step rB ((Below.refl _ _).alloc (Nat.le_refl _) (.cells #[.int .i64 a, .string ⟨ES.toArray⟩, .slice A4 el.length c4, .string ⟨EX.toArray⟩, .slice B4 em.length d4] 41))); have HB3 := Lib.hid (((HB8.out).below bb (HB8.out.lt)).alloc (.cells #[.int .i64 a, .string ⟨ES.toArray⟩, .slice A4 el.length c4, .string ⟨EX.toArray⟩, .slice B4 em.length d4] 41)); have V3 := Lib.hid (Blk.new w3 41 #[.int .i64 a, .string ⟨ES.toArray⟩, .slice A4 el.length c4, .string ⟨EX.toArray⟩, .slice B4 em.length d4]); have N3 : Hid (g16 ≠ w3.heap.size) := Nat.ne_of_lt (((HB8.out).below bb (HB8.out.lt)).lt); clear rA rB bb)
        clear y0 y1 T T8 HB HB8 HTM HW
        generalize hg20 : w3.heap.size = g20 at *
        generalize w3.alloc (.cells #[.int .i64 a, .string ⟨ES.toArray⟩, .slice A4 el.length c4, .string ⟨EX.toArray⟩, .slice B4 em.length d4] 41) = w4 at *
        clear hg20
        obtain ⟨e0, e1, e2, e3, e4⟩ := ed_cells V3.out
        obtain ⟨⟨q0, q1, q2, q3, q4, q5, q6, q7, q8, q9⟩, p0, p1, p2, p3, p4, p5, p6, p7, p8, p9⟩ := out_cells HB3.out
        go_upto_region 11 with fail
        have T5 := Lib.hid (T3.out.many HB3.out noLab_out LOW.out [(0, .int .i64 a), (1, .string ⟨ES.toArray⟩), (2, .slice A4 el.length c4), (3, .string ⟨EX.toArray⟩), (4, .slice B4 em.length d4)])
        have HB5 : Hid (Blk (setMany w4 g16 [(0, .int .i64 a), (1, .string ⟨ES.toArray⟩), (2, .slice A4 el.length c4), (3, .string ⟨EX.toArray⟩), (4, .slice B4 em.length d4)]) g16 47 #[.int .i64 a, .string ⟨ES.toArray⟩, .slice A4 el.length c4, .string ⟨EX.toArray⟩, .slice B4 em.length d4, .string ⟨XS.toArray⟩, .slice A3 xl.length c3, .bool true, .bool wd, .int .i64 (F : Int)]) := out_five HB3.out _ _ _ _ _
        have RA5 := Lib.hid (row_many RA.out HB3.out noLab_out [(0, .int .i64 a), (1, .string ⟨ES.toArray⟩), (2, .slice A4 el.length c4), (3, .string ⟨EX.toArray⟩), (4, .slice B4 em.length d4)])
        have RB5 := Lib.hid (row_many RB.out HB3.out noLab_out [(0, .int .i64 a), (1, .string ⟨ES.toArray⟩), (2, .slice A4 el.length c4), (3, .string ⟨EX.toArray⟩), (4, .slice B4 em.length d4)])
        change Code.wp _ _ _ _ (setMany w4 g16 [(0, .int .i64 a), (1, .string ⟨ES.toArray⟩), (2, .slice A4 el.length c4), (3, .string ⟨EX.toArray⟩), (4, .slice B4 em.length d4)])
        generalize setMany w4 g16 [(0, .int .i64 a), (1, .string ⟨ES.toArray⟩), (2, .slice A4 el.length c4), (3, .string ⟨EX.toArray⟩), (4, .slice B4 em.length d4)] = w5 at *
        clear q0 q1 q2 q3 q4 q5 q6 q7 q8 q9 p0 p1 p2 p3 p4 p5 p6 p7 p8 p9 e0 e1 e2 e3 e4
        clear RA RB HB3 T3 V3 N3
        obtain ⟨⟨z0, z1, z2, _, _, _⟩, _⟩ := rng_var T5.out.rg
        go_upto_region 12 with (go_at_call 110; refine (HFi.out _).mono ?_; rintro ee w6 ⟨rfl, bb⟩; have T6 := Lib.hid (T5.out.step bb); have HB6 := Lib.hid (HB5.out.below bb HB5.out.lt); have RA6 := Lib.hid (row_step RA5.out bb); have RB6 := Lib.hid (row_step RB5.out bb); obtain ⟨⟨_, _, _, _, _, _, _, _, _, q9⟩, _, _, _, _, _, _, _, _, _, p9⟩ := out_cells HB6.out; clear bb)
        have T7 := Lib.hid (T6.out.many HB6.out noLab_out LOW.out [(9, .int .i64 (fi : Nat))])
        have HB7 : Hid (Blk (setMany w6 g16 [(9, .int .i64 (fi : Nat))]) g16 47 #[.int .i64 a, .string ⟨ES.toArray⟩, .slice A4 el.length c4, .string ⟨EX.toArray⟩, .slice B4 em.length d4, .string ⟨XS.toArray⟩, .slice A3 xl.length c3, .bool true, .bool wd, .int .i64 (fi : Nat)]) := out_nine HB6.out _
        have RA7 := Lib.hid (row_many RA6.out HB6.out noLab_out [(9, .int .i64 (fi : Nat))])
        have RB7 := Lib.hid (row_many RB6.out HB6.out noLab_out [(9, .int .i64 (fi : Nat))])
        change Code.wp _ _ _ _ (setMany w6 g16 [(9, .int .i64 (fi : Nat))])
        generalize setMany w6 g16 [(9, .int .i64 (fi : Nat))] = w7 at *
        clear z0 z1 z2 q9 p9 T5 T6 HB5 HB6 RA5 RA6 RB5 RB6
        obtain ⟨⟨r0, r1, r2, r3, r4, r5, r6, r7, r8, r9⟩, t0, t1, t2, t3, t4, t5, t6, t7, t8, t9⟩ := out_cells T7.out.res
        obtain ⟨⟨q0, q1, q2, q3, q4, q5, q6, q7, q8, q9⟩, _⟩ := out_cells HB7.out
        go_wp2_with fail
        have EE := out_end (A := A4) (B := B4) (C := A3) (l := el) (m := em) (q := xl) T7.out.res noLab_out T7.out.bel (by omega) RA7.out RB7.out T7.out.tX.row [(0, .int .i64 a), (1, .string ⟨ES.toArray⟩), (2, .slice A4 el.length c4), (3, .string ⟨EX.toArray⟩), (4, .slice B4 em.length d4), (5, .string ⟨XS.toArray⟩), (6, .slice A3 xl.length c3), (7, .bool true), (8, .bool wd), (9, .int .i64 (fi : Nat))]
        have EB : Blk (setMany w7 (w.heap.size + 1 + 1) [(0, .int .i64 a), (1, .string ⟨ES.toArray⟩), (2, .slice A4 el.length c4), (3, .string ⟨EX.toArray⟩), (4, .slice B4 em.length d4), (5, .string ⟨XS.toArray⟩), (6, .slice A3 xl.length c3), (7, .bool true), (8, .bool wd), (9, .int .i64 (fi : Nat))]) (w.heap.size + 1 + 1) 47 #[.int .i64 a, .string ⟨ES.toArray⟩, .slice A4 el.length c4, .string ⟨EX.toArray⟩, .slice B4 em.length d4, .string ⟨XS.toArray⟩, .slice A3 xl.length c3, .bool true, .bool wd, .int .i64 (fi : Nat)] := out_ten T7.out.res _ _ _ _ _ _ _ _ _ _
        change bodyPost _ _ _ _ _ (setMany w7 (w.heap.size + 1 + 1) [(0, .int .i64 a), (1, .string ⟨ES.toArray⟩), (2, .slice A4 el.length c4), (3, .string ⟨EX.toArray⟩), (4, .slice B4 em.length d4), (5, .string ⟨XS.toArray⟩), (6, .slice A3 xl.length c3), (7, .bool true), (8, .bool wd), (9, .int .i64 (fi : Nat))])
        generalize setMany w7 (w.heap.size + 1 + 1) [(0, .int .i64 a), (1, .string ⟨ES.toArray⟩), (2, .slice A4 el.length c4), (3, .string ⟨EX.toArray⟩), (4, .slice B4 em.length d4), (5, .string ⟨XS.toArray⟩), (6, .slice A3 xl.length c3), (7, .bool true), (8, .bool wd), (9, .int .i64 (fi : Nat))] = wz at *
        refine ret_out rfl _ _ (w.heap.size + 1 + 1) #[.int .i64 a, .string ⟨ES.toArray⟩, .slice A4 el.length c4, .string ⟨EX.toArray⟩, .slice B4 em.length d4, .string ⟨XS.toArray⟩, .slice A3 xl.length c3, .bool true, .bool wd, .int .i64 (fi : Nat)] rfl rfl EB rfl ?_
        rw [← HV2.out]
        exact ⟨A4, c4, B4, d4, A3, c3, rfl, EE.1, EE.2.1, EE.2.2.1, EE.2.2.2⟩
      · rcases (show op ≠ 100 ∨ (op = 100 ∧ b = false) by by_cases h : op = 100; exact .inr ⟨h, by cases b with | true => exact absurd ⟨h, rfl⟩ hd | false => rfl⟩; exact .inl h) with hc | ⟨hc1, hc2⟩
        · have hc' : (op == 100) = false := by rw [beq_eq_false_iff_ne]; exact hc
          have HV2 := Lib.hid ((if_neg hd).symm.trans HV1.out)
          clear HV1
          obtain ⟨tm, htm⟩ : ∃ tm, turnedM S l y (F : Nat) (E : Nat) [] [] true = tm := ⟨_, rfl⟩
          rw [htm] at HV2
          have HTM := Lib.hid htm
          clear htm
          obtain ⟨⟨⟨a, ES, el, EX, em⟩, W⟩, n⟩ := tm
          dsimp only at HV2
          obtain ⟨⟨z0, z1, z2, _, _, _⟩, _⟩ := rng_var T.out.rg
          obtain ⟨y0, y1⟩ := txt_cells T.out.t5
          have step13 : True := trivial
          go_upto_region 14 with (go_at_call 73; refine (refPTurned_any A none c 0 S l y hy (F : Nat) (E : Nat) [] [] true _ T.out.tS txu_nil).mono ?_; rw [HTM.out]; rintro ee w3 ⟨A4, c4, B4, d4, rfl, rA, rB, bb⟩; dsimp only at rA rB ⊢; have T3 := Lib.hid ((T.out.step bb).step ((Below.refl _ _).alloc (Nat.le_refl _) (.cells #[.int .i64 a, .string ⟨ES.toArray⟩, .slice A4 el.length c4, .string ⟨EX.toArray⟩, .slice B4 em.length d4] 41))); have RA := Lib.hid (row_step rA ((Below.refl _ _).alloc (Nat.le_refl _) (.cells #[.int .i64 a, .string ⟨ES.toArray⟩, .slice A4 el.length c4, .string ⟨EX.toArray⟩, .slice B4 em.length d4] 41))); have RB := Lib.hid (row_step rB ((Below.refl _ _).alloc (Nat.le_refl _) (.cells #[.int .i64 a, .string ⟨ES.toArray⟩, .slice A4 el.length c4, .string ⟨EX.toArray⟩, .slice B4 em.length d4] 41))); have HB3 := Lib.hid (((HB.out).below bb (HB.out.lt)).alloc (.cells #[.int .i64 a, .string ⟨ES.toArray⟩, .slice A4 el.length c4, .string ⟨EX.toArray⟩, .slice B4 em.length d4] 41)); have V3 := Lib.hid (Blk.new w3 41 #[.int .i64 a, .string ⟨ES.toArray⟩, .slice A4 el.length c4, .string ⟨EX.toArray⟩, .slice B4 em.length d4]); have N3 : Hid (g16 ≠ w3.heap.size) := Nat.ne_of_lt (((HB.out).below bb (HB.out.lt)).lt); clear rA rB bb)
          clear y0 y1 z0 z1 z2 T HB HTM step13
          generalize hg20 : w3.heap.size = g20 at *
          generalize w3.alloc (.cells #[.int .i64 a, .string ⟨ES.toArray⟩, .slice A4 el.length c4, .string ⟨EX.toArray⟩, .slice B4 em.length d4] 41) = w4 at *
          clear hg20
          obtain ⟨e0, e1, e2, e3, e4⟩ := ed_cells V3.out
          obtain ⟨⟨q0, q1, q2, q3, q4, q5, q6, q7, q8, q9⟩, p0, p1, p2, p3, p4, p5, p6, p7, p8, p9⟩ := out_cells HB3.out
          go_upto_region 15 with fail
          have T5 := Lib.hid (T3.out.many HB3.out noLab_out LOW.out [(0, .int .i64 a), (1, .string ⟨ES.toArray⟩), (2, .slice A4 el.length c4), (3, .string ⟨EX.toArray⟩), (4, .slice B4 em.length d4)])
          have HB5 : Hid (Blk (setMany w4 g16 [(0, .int .i64 a), (1, .string ⟨ES.toArray⟩), (2, .slice A4 el.length c4), (3, .string ⟨EX.toArray⟩), (4, .slice B4 em.length d4)]) g16 47 #[.int .i64 a, .string ⟨ES.toArray⟩, .slice A4 el.length c4, .string ⟨EX.toArray⟩, .slice B4 em.length d4, .string ⟨XS.toArray⟩, .slice A3 xl.length c3, .bool b, .bool wd, .int .i64 (F : Int)]) := out_five HB3.out _ _ _ _ _
          have RA5 := Lib.hid (row_many RA.out HB3.out noLab_out [(0, .int .i64 a), (1, .string ⟨ES.toArray⟩), (2, .slice A4 el.length c4), (3, .string ⟨EX.toArray⟩), (4, .slice B4 em.length d4)])
          have RB5 := Lib.hid (row_many RB.out HB3.out noLab_out [(0, .int .i64 a), (1, .string ⟨ES.toArray⟩), (2, .slice A4 el.length c4), (3, .string ⟨EX.toArray⟩), (4, .slice B4 em.length d4)])
          change Code.wp _ _ _ _ (setMany w4 g16 [(0, .int .i64 a), (1, .string ⟨ES.toArray⟩), (2, .slice A4 el.length c4), (3, .string ⟨EX.toArray⟩), (4, .slice B4 em.length d4)])
          generalize setMany w4 g16 [(0, .int .i64 a), (1, .string ⟨ES.toArray⟩), (2, .slice A4 el.length c4), (3, .string ⟨EX.toArray⟩), (4, .slice B4 em.length d4)] = w5 at *
          clear q0 q1 q2 q3 q4 q5 q6 q7 q8 q9 p0 p1 p2 p3 p4 p5 p6 p7 p8 p9 e0 e1 e2 e3 e4
          clear RA RB HB3 T3 V3 N3
          obtain ⟨⟨r0, r1, r2, r3, r4, r5, r6, r7, r8, r9⟩, t0, t1, t2, t3, t4, t5, t6, t7, t8, t9⟩ := out_cells T5.out.res
          obtain ⟨⟨q0, q1, q2, q3, q4, q5, q6, q7, q8, q9⟩, _⟩ := out_cells HB5.out
          go_wp2_with fail
          have EE := out_end (A := A4) (B := B4) (C := A3) (l := el) (m := em) (q := xl) T5.out.res noLab_out T5.out.bel (by omega) RA5.out RB5.out T5.out.tX.row [(0, .int .i64 a), (1, .string ⟨ES.toArray⟩), (2, .slice A4 el.length c4), (3, .string ⟨EX.toArray⟩), (4, .slice B4 em.length d4), (5, .string ⟨XS.toArray⟩), (6, .slice A3 xl.length c3), (7, .bool b), (8, .bool wd), (9, .int .i64 (F : Int))]
          have EB : Blk (setMany w5 (w.heap.size + 1 + 1) [(0, .int .i64 a), (1, .string ⟨ES.toArray⟩), (2, .slice A4 el.length c4), (3, .string ⟨EX.toArray⟩), (4, .slice B4 em.length d4), (5, .string ⟨XS.toArray⟩), (6, .slice A3 xl.length c3), (7, .bool b), (8, .bool wd), (9, .int .i64 (F : Int))]) (w.heap.size + 1 + 1) 47 #[.int .i64 a, .string ⟨ES.toArray⟩, .slice A4 el.length c4, .string ⟨EX.toArray⟩, .slice B4 em.length d4, .string ⟨XS.toArray⟩, .slice A3 xl.length c3, .bool b, .bool wd, .int .i64 (F : Int)] := out_ten T5.out.res _ _ _ _ _ _ _ _ _ _
          change bodyPost _ _ _ _ _ (setMany w5 (w.heap.size + 1 + 1) [(0, .int .i64 a), (1, .string ⟨ES.toArray⟩), (2, .slice A4 el.length c4), (3, .string ⟨EX.toArray⟩), (4, .slice B4 em.length d4), (5, .string ⟨XS.toArray⟩), (6, .slice A3 xl.length c3), (7, .bool b), (8, .bool wd), (9, .int .i64 (F : Int))])
          generalize setMany w5 (w.heap.size + 1 + 1) [(0, .int .i64 a), (1, .string ⟨ES.toArray⟩), (2, .slice A4 el.length c4), (3, .string ⟨EX.toArray⟩), (4, .slice B4 em.length d4), (5, .string ⟨XS.toArray⟩), (6, .slice A3 xl.length c3), (7, .bool b), (8, .bool wd), (9, .int .i64 (F : Int))] = wz at *
          refine ret_out rfl _ _ (w.heap.size + 1 + 1) #[.int .i64 a, .string ⟨ES.toArray⟩, .slice A4 el.length c4, .string ⟨EX.toArray⟩, .slice B4 em.length d4, .string ⟨XS.toArray⟩, .slice A3 xl.length c3, .bool b, .bool wd, .int .i64 (F : Int)] rfl rfl EB rfl ?_
          rw [← HV2.out]
          exact ⟨A4, c4, B4, d4, A3, c3, rfl, EE.1, EE.2.1, EE.2.2.1, EE.2.2.2⟩
        · subst hc1
          subst hc2
          have HV2 := Lib.hid ((if_neg hd).symm.trans HV1.out)
          clear HV1
          obtain ⟨tm, htm⟩ : ∃ tm, turnedM S l y (F : Nat) (E : Nat) [] [] true = tm := ⟨_, rfl⟩
          rw [htm] at HV2
          have HTM := Lib.hid htm
          clear htm
          obtain ⟨⟨⟨a, ES, el, EX, em⟩, W⟩, n⟩ := tm
          dsimp only at HV2
          obtain ⟨⟨z0, z1, z2, _, _, _⟩, _⟩ := rng_var T.out.rg
          obtain ⟨y0, y1⟩ := txt_cells T.out.t5
          have step13 : True := trivial
          go_upto_region 14 with (go_at_call 73; refine (refPTurned_any A none c 0 S l y hy (F : Nat) (E : Nat) [] [] true _ T.out.tS txu_nil).mono ?_; rw [HTM.out]; rintro ee w3 ⟨A4, c4, B4, d4, rfl, rA, rB, bb⟩; dsimp only at rA rB ⊢; have T3 := Lib.hid ((T.out.step bb).step ((Below.refl _ _).alloc (Nat.le_refl _) (.cells #[.int .i64 a, .string ⟨ES.toArray⟩, .slice A4 el.length c4, .string ⟨EX.toArray⟩, .slice B4 em.length d4] 41))); have RA := Lib.hid (row_step rA ((Below.refl _ _).alloc (Nat.le_refl _) (.cells #[.int .i64 a, .string ⟨ES.toArray⟩, .slice A4 el.length c4, .string ⟨EX.toArray⟩, .slice B4 em.length d4] 41))); have RB := Lib.hid (row_step rB ((Below.refl _ _).alloc (Nat.le_refl _) (.cells #[.int .i64 a, .string ⟨ES.toArray⟩, .slice A4 el.length c4, .string ⟨EX.toArray⟩, .slice B4 em.length d4] 41))); have HB3 := Lib.hid (((HB.out).below bb (HB.out.lt)).alloc (.cells #[.int .i64 a, .string ⟨ES.toArray⟩, .slice A4 el.length c4, .string ⟨EX.toArray⟩, .slice B4 em.length d4] 41)); have V3 := Lib.hid (Blk.new w3 41 #[.int .i64 a, .string ⟨ES.toArray⟩, .slice A4 el.length c4, .string ⟨EX.toArray⟩, .slice B4 em.length d4]); have N3 : Hid (g16 ≠ w3.heap.size) := Nat.ne_of_lt (((HB.out).below bb (HB.out.lt)).lt); clear rA rB bb)
          clear y0 y1 z0 z1 z2 T HB HTM step13
          generalize hg20 : w3.heap.size = g20 at *
          generalize w3.alloc (.cells #[.int .i64 a, .string ⟨ES.toArray⟩, .slice A4 el.length c4, .string ⟨EX.toArray⟩, .slice B4 em.length d4] 41) = w4 at *
          clear hg20
          obtain ⟨e0, e1, e2, e3, e4⟩ := ed_cells V3.out
          obtain ⟨⟨q0, q1, q2, q3, q4, q5, q6, q7, q8, q9⟩, p0, p1, p2, p3, p4, p5, p6, p7, p8, p9⟩ := out_cells HB3.out
          go_upto_region 15 with fail
          have T5 := Lib.hid (T3.out.many HB3.out noLab_out LOW.out [(0, .int .i64 a), (1, .string ⟨ES.toArray⟩), (2, .slice A4 el.length c4), (3, .string ⟨EX.toArray⟩), (4, .slice B4 em.length d4)])
          have HB5 : Hid (Blk (setMany w4 g16 [(0, .int .i64 a), (1, .string ⟨ES.toArray⟩), (2, .slice A4 el.length c4), (3, .string ⟨EX.toArray⟩), (4, .slice B4 em.length d4)]) g16 47 #[.int .i64 a, .string ⟨ES.toArray⟩, .slice A4 el.length c4, .string ⟨EX.toArray⟩, .slice B4 em.length d4, .string ⟨XS.toArray⟩, .slice A3 xl.length c3, .bool false, .bool wd, .int .i64 (F : Int)]) := out_five HB3.out _ _ _ _ _
          have RA5 := Lib.hid (row_many RA.out HB3.out noLab_out [(0, .int .i64 a), (1, .string ⟨ES.toArray⟩), (2, .slice A4 el.length c4), (3, .string ⟨EX.toArray⟩), (4, .slice B4 em.length d4)])
          have RB5 := Lib.hid (row_many RB.out HB3.out noLab_out [(0, .int .i64 a), (1, .string ⟨ES.toArray⟩), (2, .slice A4 el.length c4), (3, .string ⟨EX.toArray⟩), (4, .slice B4 em.length d4)])
          change Code.wp _ _ _ _ (setMany w4 g16 [(0, .int .i64 a), (1, .string ⟨ES.toArray⟩), (2, .slice A4 el.length c4), (3, .string ⟨EX.toArray⟩), (4, .slice B4 em.length d4)])
          generalize setMany w4 g16 [(0, .int .i64 a), (1, .string ⟨ES.toArray⟩), (2, .slice A4 el.length c4), (3, .string ⟨EX.toArray⟩), (4, .slice B4 em.length d4)] = w5 at *
          clear q0 q1 q2 q3 q4 q5 q6 q7 q8 q9 p0 p1 p2 p3 p4 p5 p6 p7 p8 p9 e0 e1 e2 e3 e4
          clear RA RB HB3 T3 V3 N3
          obtain ⟨⟨r0, r1, r2, r3, r4, r5, r6, r7, r8, r9⟩, t0, t1, t2, t3, t4, t5, t6, t7, t8, t9⟩ := out_cells T5.out.res
          obtain ⟨⟨q0, q1, q2, q3, q4, q5, q6, q7, q8, q9⟩, _⟩ := out_cells HB5.out
          go_wp2_with fail
          have EE := out_end (A := A4) (B := B4) (C := A3) (l := el) (m := em) (q := xl) T5.out.res noLab_out T5.out.bel (by omega) RA5.out RB5.out T5.out.tX.row [(0, .int .i64 a), (1, .string ⟨ES.toArray⟩), (2, .slice A4 el.length c4), (3, .string ⟨EX.toArray⟩), (4, .slice B4 em.length d4), (5, .string ⟨XS.toArray⟩), (6, .slice A3 xl.length c3), (7, .bool false), (8, .bool wd), (9, .int .i64 (F : Int))]
          have EB : Blk (setMany w5 (w.heap.size + 1 + 1) [(0, .int .i64 a), (1, .string ⟨ES.toArray⟩), (2, .slice A4 el.length c4), (3, .string ⟨EX.toArray⟩), (4, .slice B4 em.length d4), (5, .string ⟨XS.toArray⟩), (6, .slice A3 xl.length c3), (7, .bool false), (8, .bool wd), (9, .int .i64 (F : Int))]) (w.heap.size + 1 + 1) 47 #[.int .i64 a, .string ⟨ES.toArray⟩, .slice A4 el.length c4, .string ⟨EX.toArray⟩, .slice B4 em.length d4, .string ⟨XS.toArray⟩, .slice A3 xl.length c3, .bool false, .bool wd, .int .i64 (F : Int)] := out_ten T5.out.res _ _ _ _ _ _ _ _ _ _
          change bodyPost _ _ _ _ _ (setMany w5 (w.heap.size + 1 + 1) [(0, .int .i64 a), (1, .string ⟨ES.toArray⟩), (2, .slice A4 el.length c4), (3, .string ⟨EX.toArray⟩), (4, .slice B4 em.length d4), (5, .string ⟨XS.toArray⟩), (6, .slice A3 xl.length c3), (7, .bool false), (8, .bool wd), (9, .int .i64 (F : Int))])
          generalize setMany w5 (w.heap.size + 1 + 1) [(0, .int .i64 a), (1, .string ⟨ES.toArray⟩), (2, .slice A4 el.length c4), (3, .string ⟨EX.toArray⟩), (4, .slice B4 em.length d4), (5, .string ⟨XS.toArray⟩), (6, .slice A3 xl.length c3), (7, .bool false), (8, .bool wd), (9, .int .i64 (F : Int))] = wz at *
          refine ret_out rfl _ _ (w.heap.size + 1 + 1) #[.int .i64 a, .string ⟨ES.toArray⟩, .slice A4 el.length c4, .string ⟨EX.toArray⟩, .slice B4 em.length d4, .string ⟨XS.toArray⟩, .slice A3 xl.length c3, .bool false, .bool wd, .int .i64 (F : Int)] rfl rfl EB rfl ?_
          rw [← HV2.out]
          exact ⟨A4, c4, B4, d4, A3, c3, rfl, EE.1, EE.2.1, EE.2.2.1, EE.2.2.2⟩
end Go.Proofs.YtgpmfkedcoiopaaGreatDoor

/-
  The document's other and toggled: ~: layer 14.
-/
namespace Go.Proofs.YtgpmfkedcoiopaaGreatDoor
open Go.RowKit
set_option maxRecDepth 100000

/-- the other letter of its kind -/
def otherB (b : UInt8) : UInt8 := if 97 ≤ b.toNat ∧ b.toNat ≤ 122 then UInt8.ofNat (b.toNat - 32) else if 65 ≤ b.toNat ∧ b.toNat ≤ 90 then UInt8.ofNat (b.toNat + 32) else b
theorem refPOther_any (b : UInt8) (w : World) : Calls Tryz.prog 115 #[.int .u8 (b.toNat : Int)] w fun e w' => e = .returned (.int .u8 ((otherB b).toNat : Int)) ∧ w' = w := by
  have hb := b.toNat_lt
  by_cases h1 : 97 ≤ b.toNat
  · by_cases h2 : b.toNat ≤ 122
    · have hv : ((otherB b).toNat : Int) = (b.toNat : Int) - 97 + 65 := by
        unfold otherB
        rw [if_pos ⟨h1, h2⟩, UInt8.toNat_ofNat']
        omega
      rw [hv]
      generalize b.toNat = n at *
      clear hv
      go_enter Tryz.func115, Tryz.ntmps115
      go_wp2_with fail
      go_ret
      first | exact ⟨rfl, rfl⟩ | (refine ⟨?_, rfl⟩; congr 2; omega)
    · have hv : otherB b = b := by unfold otherB; rw [if_neg (by omega), if_neg (by omega)]
      rw [hv]
      generalize b.toNat = n at *
      clear hv
      go_enter Tryz.func115, Tryz.ntmps115
      go_wp2_with fail
      go_ret
      exact ⟨rfl, rfl⟩
  · by_cases h3 : 65 ≤ b.toNat ∧ b.toNat ≤ 90
    · have hv : ((otherB b).toNat : Int) = (b.toNat : Int) - 65 + 97 := by
        unfold otherB
        rw [if_neg (by omega), if_pos h3, UInt8.toNat_ofNat']
        omega
      rw [hv]
      obtain ⟨h3, h4⟩ := h3
      generalize b.toNat = n at *
      clear hv
      go_enter Tryz.func115, Tryz.ntmps115
      go_wp2_with fail
      go_ret
      first | exact ⟨rfl, rfl⟩ | (refine ⟨?_, rfl⟩; congr 2; omega)
    · have hv : otherB b = b := by unfold otherB; rw [if_neg (by omega), if_neg h3]
      rw [hv]
      generalize b.toNat = n at *
      clear hv
      by_cases h4 : 65 ≤ n
      · go_enter Tryz.func115, Tryz.ntmps115
        go_wp2_with fail
        go_ret
        exact ⟨rfl, rfl⟩
      · go_enter Tryz.func115, Tryz.ntmps115
        go_wp2_with fail
        go_ret
        exact ⟨rfl, rfl⟩
def togB (c v : UInt8) : UInt8 := if v = c then otherB c else c
def togL (S V : List UInt8) (F E : Nat) : List UInt8 := (List.range (E - F)).map fun j => togB (S.getD (F + j) 0) (V.getD (F + j) 0)
theorem togL_len (S V : List UInt8) (F E : Nat) : (togL S V F E).length = E - F := by unfold togL; rw [List.length_map, List.length_range]
theorem togL_succ (S V : List UInt8) (F E k : Nat) (h : k < E - F) : (togL S V F E).take (k + 1) = (togL S V F E).take k ++ [togB (S.getD (F + k) 0) (V.getD (F + k) 0)] := by
  rw [List.take_succ_eq_append_getElem (by rw [togL_len]; exact h)]
  congr 2
  unfold togL
  simp
def toggledM (S : List UInt8) (l : List RunP) (V : List UInt8) (y : Nat) (f t : Int) (b : Bool) : OutP × Nat :=
  let p := bytesM V f t b
  let tm := turnedM S l y p.1 p.2 (togL S V p.1.toNat p.2.toNat) (cutOf S l p.1 p.2).1.2 true
  if tm.2 = 0 then (⟨tm.1.1, [], [], false, false, p.1⟩, 0) else (out0, tm.2)
set_option maxHeartbeats 8000000 in
theorem refPToggled_any (A : Option Addr) (c : Nat) (S : List UInt8) (l : List RunP) (V : List UInt8) (y : Nat) (hy : y < 18446744073709551616) (f t : Int) (b : Bool) (F E : Nat) (hp : bytesM V f t b = ((F : Int), (E : Int))) (hFE : F ≤ E) (hE : E ≤ V.length) (hV : V.length ≤ 4096) (hSV : S.length = V.length) (w : World) (h : Txu w A S l) :
    Calls Tryz.prog 59 #[.agg #[.string ⟨S.toArray⟩, .slice A l.length c], .string ⟨V.toArray⟩, .int .u64 (y : Nat), .agg #[.int .i64 f, .int .i64 t, .bool b]] w (GivesO w (toggledM S l V y f t b)) := by
  obtain ⟨v, hv⟩ : ∃ v, toggledM S l V y f t b = v := ⟨_, rfl⟩
  rw [hv]
  unfold toggledM at hv
  have HBY := Lib.hid (fun wx => refPBytes_any V (by omega) f t b wx)
  rw [hp] at hv HBY
  obtain ⟨x, hx⟩ : ∃ x, cutOf S l (F : Int) (E : Int) = x := ⟨_, rfl⟩
  have hok := okT_cut (S := S) (l := l) h.hf (F : Int) (E : Int)
  rw [hx] at hok
  dsimp only at hv
  rw [hx, Int.toNat_natCast, Int.toNat_natCast] at hv
  have HX := Lib.hid hx
  have HOK := Lib.hid hok
  obtain ⟨⟨XS, xl⟩, xn⟩ := x
  dsimp only at hv
  have hGl := togL_len S V F E
  have HGS := Lib.hid (togL_succ S V F E)
  obtain ⟨G, hG⟩ : ∃ G, togL S V F E = G := ⟨_, rfl⟩
  rw [hG] at hv hGl HGS
  obtain ⟨tm, htm⟩ : ∃ tm, turnedM S l y (F : Nat) (E : Nat) G xl true = tm := ⟨_, rfl⟩
  rw [htm] at hv
  have HTM := Lib.hid htm
  have HV := Lib.hid hv
  have HGL := Lib.hid hGl
  clear hx hok hv hp htm hG hGl
  have BX := Lib.hid (boxesE3 w 32 27 47 #[.string ⟨S.toArray⟩, .slice A l.length c] #[.int .i64 f, .int .i64 t, .bool b] #[.int .i64 0, .string ⟨#[]⟩, .slice none 0 0, .string ⟨#[]⟩, .slice none 0 0, .string ⟨#[]⟩, .slice none 0 0, .bool false, .bool false, .int .i64 0])
  have K := Lib.hid (BX.out.and ((grow_txu h).step BX.out.now.2.2.2))
  clear h BX
  go_enter Tryz.func59, Tryz.ntmps59
  go_upto_region 1 with fail
  generalize ((w.alloc (.cells #[.string ⟨S.toArray⟩, .slice A l.length c] 32)).alloc (.cells #[.int .i64 f, .int .i64 t, .bool b] 27)).alloc (.cells #[.int .i64 0, .string ⟨#[]⟩, .slice none 0 0, .string ⟨#[]⟩, .slice none 0 0, .string ⟨#[]⟩, .slice none 0 0, .bool false, .bool false, .int .i64 0] 47) = wx at *
  obtain ⟨y0, y1⟩ := txt_cells K.out.now.1.1
  obtain ⟨⟨z0, z1, z2, _⟩, _⟩ := rng_var K.out.now.1.2.1
  go_upto_region 5 with (first
    | (go_at_call 107; refine (HBY.out _).mono ?_; rintro e w1 ⟨rfl, bb⟩; replace K := Lib.hid (K.out.step bb); clear y0 y1 z0 z1 z2 bb; obtain ⟨y0, y1⟩ := txt_cells K.out.now.1.1)
    | (go_at_call 108; refine (refTCut_any A c _ S l (F : Int) (E : Int) _ (Nat.le_refl _) K.out.now.2).mono ?_; rw [HX.out]; rintro e w2 ⟨A3, c3, rfl, own, bb⟩; dsimp only at own ⊢; replace K := Lib.hid ((K.out.step bb).var (c := c3) (HOK.out.txt (Row.of_own own))); clear y0 y1 bb own))
  generalize hg12 : w2.heap.size = g12 at *
  generalize w2.alloc (.cells #[.string ⟨XS.toArray⟩, .slice A3 xl.length c3] 32) = wb at *
  clear hg12
  go_loopw [14, 15] (fun v i wr => ∃ (k : Nat) (A8 : Option Addr) (c8 : Nat), v = .slice A8 k c8 ∧ i = .int .i64 ((F + k : Nat) : Int) ∧ F + k ≤ E ∧ Hid (wr.ownsRow wb.heap.size 5 1 (.slice A8 k c8) k ((G.take k).map byt)) ∧ Hid (Below wb.heap.size wb wr)) (fun _ i _ => E - (intOf i).toNat)
  case atStart => exact ⟨0, none, 0, rfl, rfl, by omega, World.ownsRow_nil _ _ _ _, Below.refl _ _⟩
  case round =>
    obtain ⟨k, A8, c8, rfl, rfl, hk, HO, HB⟩ := hrel
    have kk := K.out wr HB.out
    by_cases hlt : F + k < E
    · obtain ⟨y0, y1⟩ := txt_cells kk.2.1.1
      have hi : ((F + k : Nat) : Int) < (E : Int) := by omega
      have hi2 : ((F + k : Nat) : Int) < (S.length : Int) := by omega
      have hi3 : ((F + k : Nat) : Int) < (V.length : Int) := by omega
      have hg1 := byte_at S (F + k) (by omega)
      have hg2 := byte_at V (F + k) (by omega)
      have hG1 := HGS.out k (by omega)
      have e1 : S.getD (F + k) 0 = S[F + k]'(by omega) := by rw [List.getD_eq_getElem?_getD, List.getElem?_eq_getElem (by omega)]; rfl
      have e2 : V.getD (F + k) 0 = V[F + k]'(by omega) := by rw [List.getD_eq_getElem?_getD, List.getElem?_eq_getElem (by omega)]; rfl
      rw [e1, e2] at hG1
      generalize S[F + k]'(by omega) = cb at *
      generalize V[F + k]'(by omega) = vb at *
      have HG1 := Lib.hid hG1
      have hkE : k ≤ 4096 := by omega
      have hw := HB.out.size
      clear kk hG1 e1 e2
      by_cases hcv : vb = cb
      · subst hcv
        have HG2 : Hid (G.take (k + 1) = G.take k ++ [otherB vb]) := by show _ = _; rw [HG1.out]; unfold togB; rw [if_pos rfl]
        go_wp2_with (first
          | (go_at_call 115; refine (refPOther_any vb _).mono ?_; rintro e w4 ⟨rfl, hw4⟩; subst w4)
          | (at_builtin; refine wpList_push rfl _ _ _ rfl wb.heap.size 5 _ 1 elt_byt _ _ _ _ rfl HO.out (byt (otherB vb)) rfl rfl (by unfold maxLen; omega) (by omega) hw ?_; intro v4 w4 own4 hb4; obtain ⟨A5, c5, rfl⟩ := own_form own4; have HO5 := Lib.hid own4; have HB5 := Lib.hid (HB.out.trans hb4); clear own4 hb4))
        go_roundw
        case rel => exact ⟨k + 1, A5, c5, rfl, by go_num, by omega, by rw [HG2.out, List.map_append]; exact HO5, HB5⟩
        case measure => simp [intOf]; omega
      · have HG2 : Hid (G.take (k + 1) = G.take k ++ [cb]) := by show _ = _; rw [HG1.out]; unfold togB; rw [if_neg hcv]
        have hne : ((vb.toNat : Int) == (cb.toNat : Int)) = false := by rw [beq_eq_false_iff_ne]; intro h; exact hcv (UInt8.toNat_inj.1 (by omega))
        clear hcv
        go_wp2_with (at_builtin; refine wpList_push rfl _ _ _ rfl wb.heap.size 5 _ 1 elt_byt _ _ _ _ rfl HO.out (byt cb) rfl rfl (by unfold maxLen; omega) (by omega) hw ?_; intro v4 w4 own4 hb4; obtain ⟨A5, c5, rfl⟩ := own_form own4; have HO5 := Lib.hid own4; have HB5 := Lib.hid (HB.out.trans hb4); clear own4 hb4)
        go_roundw
        case rel => exact ⟨k + 1, A5, c5, rfl, by go_num, by omega, by rw [HG2.out, List.map_append]; exact HO5, HB5⟩
        case measure => simp [intOf]; omega
    · have hkE : k = E - F := by omega
      subst hkE
      rw [List.take_of_length_le (by rw [HGL.out]; omega)] at HO
      have hi : ¬ ((F + (E - F) : Nat) : Int) < (E : Int) := by omega
      have T : Hid (TakeK w wr A A3 c S XS l xl f t b) := ⟨kk.2.1.1, kk.2.1.2.1, kk.2.1.2.2.1, kk.2.1.2.2.2, kk.2.2, kk.1.2⟩
      obtain ⟨z0, z1⟩ := txt_cells kk.1.1
      obtain ⟨y0, y1⟩ := txt_cells kk.2.1.1
      have hcv := str_of_row (P := Tryz.prog) (c := c8) (l := G) 131 9 5 Tryz.underlying131 Tryz.underlying5 Tryz.underlying9 (Row.of_own HO.out)
      rw [HGL.out] at hcv
      clear kk
      obtain ⟨⟨⟨a, ES, el, EX, em⟩, W⟩, n⟩ := tm
      go_upto_region 12 with (go_at_call 73; refine (refPTurned_any A A3 c c3 S l y hy (F : Nat) (E : Nat) G xl true _ T.out.tS ⟨by rw [HGL.out]; unfold maxLen; omega, T.out.tX.hf, T.out.tX.hl, T.out.tX.row⟩).mono ?_; rw [HTM.out]; rintro ee w3 ⟨A4, c4, B4, d4, rfl, rA, rB, bb⟩; dsimp only at rA rB ⊢; have T3 := Lib.hid ((T.out.step bb).step ((Below.refl _ _).alloc (Nat.le_refl _) (.cells #[.int .i64 a, .string ⟨ES.toArray⟩, .slice A4 el.length c4, .string ⟨EX.toArray⟩, .slice B4 em.length d4] 41))); have RA := Lib.hid (row_step rA ((Below.refl _ _).alloc (Nat.le_refl _) (.cells #[.int .i64 a, .string ⟨ES.toArray⟩, .slice A4 el.length c4, .string ⟨EX.toArray⟩, .slice B4 em.length d4] 41))); have RB := Lib.hid (row_step rB ((Below.refl _ _).alloc (Nat.le_refl _) (.cells #[.int .i64 a, .string ⟨ES.toArray⟩, .slice A4 el.length c4, .string ⟨EX.toArray⟩, .slice B4 em.length d4] 41))); have V3 := Lib.hid (Blk.new w3 41 #[.int .i64 a, .string ⟨ES.toArray⟩, .slice A4 el.length c4, .string ⟨EX.toArray⟩, .slice B4 em.length d4]); clear rA rB bb)
      clear y0 y1 z0 z1 hcv T
      generalize hg17 : w3.heap.size = g17 at *
      generalize w3.alloc (.cells #[.int .i64 a, .string ⟨ES.toArray⟩, .slice A4 el.length c4, .string ⟨EX.toArray⟩, .slice B4 em.length d4] 41) = w4 at *
      clear hg17
      obtain ⟨e0, e1, e2, e3, e4⟩ := ed_cells V3.out
      by_cases hn : n = 0
      · subst hn
        have HV2 := Lib.hid ((if_pos rfl).symm.trans HV.out)
        clear HV
        dsimp only at HV2
        obtain ⟨⟨r0, r1, r2, r3, r4, r5, r6, r7, r8, r9⟩, t0, t1, t2, t3, t4, t5, t6, t7, t8, t9⟩ := out_cells T3.out.res
        go_wp2_with fail
        have EE := out_end (A := A4) (B := B4) (C := none) (l := el) (m := em) (q := []) T3.out.res noLab_out T3.out.bel (by omega) RA.out RB.out (.inl rfl) [(0, .int .i64 a), (1, .string ⟨ES.toArray⟩), (2, .slice A4 el.length c4), (3, .string ⟨EX.toArray⟩), (4, .slice B4 em.length d4), (5, .string ⟨#[]⟩), (6, .slice none 0 0), (7, .bool false), (8, .bool false), (9, .int .i64 (F : Int))]
        have EB : Blk (setMany w4 (w.heap.size + 1 + 1) [(0, .int .i64 a), (1, .string ⟨ES.toArray⟩), (2, .slice A4 el.length c4), (3, .string ⟨EX.toArray⟩), (4, .slice B4 em.length d4), (5, .string ⟨#[]⟩), (6, .slice none 0 0), (7, .bool false), (8, .bool false), (9, .int .i64 (F : Int))]) (w.heap.size + 1 + 1) 47 #[.int .i64 a, .string ⟨ES.toArray⟩, .slice A4 el.length c4, .string ⟨EX.toArray⟩, .slice B4 em.length d4, .string ⟨#[]⟩, .slice none 0 0, .bool false, .bool false, .int .i64 (F : Int)] := out_ten T3.out.res _ _ _ _ _ _ _ _ _ _
        change bodyPost _ _ _ _ _ (setMany w4 (w.heap.size + 1 + 1) [(0, .int .i64 a), (1, .string ⟨ES.toArray⟩), (2, .slice A4 el.length c4), (3, .string ⟨EX.toArray⟩), (4, .slice B4 em.length d4), (5, .string ⟨#[]⟩), (6, .slice none 0 0), (7, .bool false), (8, .bool false), (9, .int .i64 (F : Int))])
        generalize setMany w4 (w.heap.size + 1 + 1) [(0, .int .i64 a), (1, .string ⟨ES.toArray⟩), (2, .slice A4 el.length c4), (3, .string ⟨EX.toArray⟩), (4, .slice B4 em.length d4), (5, .string ⟨#[]⟩), (6, .slice none 0 0), (7, .bool false), (8, .bool false), (9, .int .i64 (F : Int))] = wz at *
        refine ret_out rfl _ _ (w.heap.size + 1 + 1) #[.int .i64 a, .string ⟨ES.toArray⟩, .slice A4 el.length c4, .string ⟨EX.toArray⟩, .slice B4 em.length d4, .string ⟨#[]⟩, .slice none 0 0, .bool false, .bool false, .int .i64 (F : Int)] rfl rfl EB rfl ?_
        rw [← HV2.out]
        exact ⟨A4, c4, B4, d4, none, 0, rfl, EE.1, EE.2.1, EE.2.2.1, EE.2.2.2⟩
      · have HV2 := Lib.hid ((if_neg hn).symm.trans HV.out)
        clear HV
        have hn1 : ((n : Int) == 0) = false := by rw [beq_eq_false_iff_ne]; omega
        have hn2 : ((n : Int) != 0) = true := by rw [bne_iff_ne]; omega
        obtain ⟨⟨r0, r1, r2, r3, r4, r5, r6, r7, r8, r9⟩, t0, t1, t2, t3, t4, t5, t6, t7, t8, t9⟩ := out_cells T3.out.res
        go_wp2_with fail
        have EE := out_end (A := none) (B := none) (C := none) (l := []) (m := []) (q := []) T3.out.res noLab_out T3.out.bel (by omega) (.inl rfl) (.inl rfl) (.inl rfl) [(0, .int .i64 0), (1, .string ⟨#[]⟩), (2, .slice none 0 0), (3, .string ⟨#[]⟩), (4, .slice none 0 0), (5, .string ⟨#[]⟩), (6, .slice none 0 0), (7, .bool false), (8, .bool false), (9, .int .i64 0)]
        have EB : Blk (setMany w4 (w.heap.size + 1 + 1) [(0, .int .i64 0), (1, .string ⟨#[]⟩), (2, .slice none 0 0), (3, .string ⟨#[]⟩), (4, .slice none 0 0), (5, .string ⟨#[]⟩), (6, .slice none 0 0), (7, .bool false), (8, .bool false), (9, .int .i64 0)]) (w.heap.size + 1 + 1) 47 #[.int .i64 0, .string ⟨#[]⟩, .slice none 0 0, .string ⟨#[]⟩, .slice none 0 0, .string ⟨#[]⟩, .slice none 0 0, .bool false, .bool false, .int .i64 0] := out_ten T3.out.res _ _ _ _ _ _ _ _ _ _
        change bodyPost _ _ _ _ _ (setMany w4 (w.heap.size + 1 + 1) [(0, .int .i64 0), (1, .string ⟨#[]⟩), (2, .slice none 0 0), (3, .string ⟨#[]⟩), (4, .slice none 0 0), (5, .string ⟨#[]⟩), (6, .slice none 0 0), (7, .bool false), (8, .bool false), (9, .int .i64 0)])
        generalize setMany w4 (w.heap.size + 1 + 1) [(0, .int .i64 0), (1, .string ⟨#[]⟩), (2, .slice none 0 0), (3, .string ⟨#[]⟩), (4, .slice none 0 0), (5, .string ⟨#[]⟩), (6, .slice none 0 0), (7, .bool false), (8, .bool false), (9, .int .i64 0)] = wz at *
        refine ret_out rfl _ _ (w.heap.size + 1 + 1) #[.int .i64 0, .string ⟨#[]⟩, .slice none 0 0, .string ⟨#[]⟩, .slice none 0 0, .string ⟨#[]⟩, .slice none 0 0, .bool false, .bool false, .int .i64 0] rfl rfl EB rfl ?_
        rw [← HV2.out]
        exact ⟨none, 0, none, 0, none, 0, rfl, EE.1, EE.2.1, EE.2.2.1, EE.2.2.2⟩
end Go.Proofs.YtgpmfkedcoiopaaGreatDoor

/-
  Texts in a row that grows; the lines that > and < make: layer 14.
-/
namespace Go.Proofs.YtgpmfkedcoiopaaGreatDoor
open Go.RowKit
set_option maxRecDepth 100000

theorem rowO_push {w w' : World} {P P' : Nat → Prop} {A : Option Addr} {xs : List Value} (h : RowO w P A xs) (hc : Tch P w w') (hk : ∀ k, P' k → P k ∨ w.heap.size ≤ k) : RowO w' P' A xs := by
  rcases h with h | ⟨ad, e, hb, hn, hcell⟩
  · exact .inl h
  · refine .inr ⟨ad, e, Nat.lt_of_lt_of_le hb hc.size, fun hp => ?_, fun j u hj => ?_⟩
    · rcases hk _ hp with h | h
      · exact hn h
      · omega
    · rw [← hcell j u hj]
      exact World.cell?_of_block (by rw [add_block]; exact hc.block _ hb hn)
/-- texts in a row of one's own, their runs outside it -/
structure TxsK (wb wr : World) (A : Option Addr) (c : Nat) (ts : List TextP) : Prop where
  own : wr.ownsRow wb.heap.size 32 2 (.slice A ts.length c) ts.length (flatX ts)
  tx : ∀ r ∈ ts, TxO wr (fun k => (Value.slice A ts.length c).ownBlock = some k) r.A r.S r.l
  bel : Below wb.heap.size wb wr
section
variable {wb wr w' : World} {A : Option Addr} {c : Nat} {ts : List TextP}
theorem TxsK.start (wb : World) : TxsK wb wb none 0 [] := ⟨World.ownsRow_nil _ _ _ _, fun r hr => by simp at hr, Below.refl _ _⟩
theorem TxsK.step (h : TxsK wb wr A c ts) (hb : Below wr.heap.size wr w') : TxsK wb w' A c ts :=
  ⟨own_keep h.own hb (Nat.le_refl _), fun r hr => (h.tx r hr).fresh hb, h.bel.trans (hb.mono h.bel.size)⟩
theorem TxsK.push (h : TxsK wb wr A c ts) (r : TextP) (hr : TxO wr (fun k => (Value.slice A ts.length c).ownBlock = some k) r.A r.S r.l) {v' : Value}
    (own : w'.ownsRow wb.heap.size 32 2 v' (ts.length + 1) (flatX ts ++ [.string ⟨r.S.toArray⟩, .slice r.A r.l.length r.c])) (ht : Tch (fun k => (Value.slice A ts.length c).ownBlock = some k) wr w') (hk : ∀ k, v'.ownBlock = some k → (Value.slice A ts.length c).ownBlock = some k ∨ wr.heap.size ≤ k) :
    ∃ A' c' ts2, ts ++ [r] = ts2 ∧ v' = .slice A' ts2.length c' ∧ TxsK wb w' A' c' ts2 := by
  obtain ⟨A', c', rfl⟩ := own_form own
  have hl : (ts ++ [r]).length = ts.length + 1 := by simp
  refine ⟨A', c', ts ++ [r], rfl, by rw [hl], ?_, fun x hx => ?_, ?_⟩
  · rw [hl, flatX_snocO]; exact own
  · rw [hl]
    have key : ∀ x : TextP, TxO wr (fun k => (Value.slice A ts.length c).ownBlock = some k) x.A x.S x.l → TxO w' (fun k => (Value.slice A' (ts.length + 1) c').ownBlock = some k) x.A x.S x.l := fun x hx => ⟨hx.hS, hx.hf, hx.hl, rowO_push hx.row ht hk⟩
    rcases List.mem_append.1 hx with hx | hx
    · exact key x (h.tx x hx)
    · rw [List.mem_singleton] at hx
      subst hx
      exact key _ hr
  · exact h.bel.trans (ht.below h.bel.size fun k hk => (h.own.lt k hk).1)
/-- a text that a call has made lies outside -/
theorem TxsK.made (h : TxsK wb wr A c ts) {w1 w2 : World} (hs : wr.heap.size ≤ w1.heap.size) {A3 : Option Addr} {c3 : Nat} {S : List UInt8} {l : List RunP} (hS : S.length ≤ maxLen) (hf : Fits l) (hl : l.length ≤ maxLen) (own : w2.ownsRow w1.heap.size 77 2 (.slice A3 l.length c3) l.length (flatR l)) :
    TxO w2 (fun k => (Value.slice A ts.length c).ownBlock = some k) A3 S l :=
  ⟨hS, hf, hl, RowO.of_rowG (rowG_own own) fun k hk hp => by have := (h.own.lt k hp).2; omega⟩
theorem TxsK.txu (h : TxsK wb wr A c ts) : ∀ r ∈ ts, Txu wr r.A r.S r.l := fun r hr => (h.tx r hr).txu
end
/-- the class of the sign that begins at a place -/
def classA (V : List UInt8) (x : Nat) : Nat := classL ((chars V).getD (whichM (chars V) (x : Nat)) (0, 0)).1
/-- what line n gives: a tab of one's own, or none, and the line -/
def shPiece (S : List UInt8) (l : List RunP) (V : List UInt8) (y : Nat) (op : Int) (b n : Int) : List TP :=
  let fr := (boundsL V n).1.1
  let wt := (boundsL V n).1.2
  (if op = 62 ∧ fr < wt then [(makeOf [9] y).1] else []) ++ [(cutOf S l ((if op = 60 ∧ fr < wt ∧ classA V fr = 0 then fr + 1 else fr : Nat) : Int) ((if n < b then wt + 1 else wt : Nat) : Int)).1]
def shList (S : List UInt8) (l : List RunP) (V : List UInt8) (y : Nat) (op : Int) (a b : Int) : Nat → List TP
  | 0 => []
  | k + 1 => shList S l V y op a b k ++ shPiece S l V y op b (a + k)
theorem shList_len (S : List UInt8) (l : List RunP) (V : List UInt8) (y : Nat) (op a b : Int) : ∀ k, (shList S l V y op a b k).length ≤ 2 * k
  | 0 => Nat.le_refl _
  | k + 1 => by
    have ih := shList_len S l V y op a b k
    have h : (shPiece S l V y op b (a + k)).length ≤ 2 := by
      unfold shPiece
      dsimp only
      split <;> simp
    show (shList S l V y op a b k ++ shPiece S l V y op b (a + k)).length ≤ _
    rw [List.length_append]
    omega
def shiftedM (S : List UInt8) (l : List RunP) (V : List UInt8) (y : Nat) (op f t : Int) (b : Bool) : OutP × Nat :=
  let p := linesP V f t b
  let x := pileM (shList S l V y op p.1 p.2 (p.2 - p.1 + 1).toNat)
  let tm := turnedM S l y (boundsL V p.1).1.1 (boundsL V p.2).1.2 (x.getD ([], [])).1 (x.getD ([], [])).2 x.isSome
  if tm.2 = 0 then (⟨tm.1.1, [], [], false, false, (firstL tm.1.2 p.1 : Nat)⟩, 0) else (out0, tm.2)
end Go.Proofs.YtgpmfkedcoiopaaGreatDoor

/-
  The document's shifted: > and <: layer 14.
-/
namespace Go.Proofs.YtgpmfkedcoiopaaGreatDoor
open Go.RowKit
set_option maxRecDepth 100000

theorem bounds_leO (S : List UInt8) (n : Int) : (boundsL S n).1.1 ≤ (boundsL S n).1.2 ∧ (boundsL S n).1.2 ≤ S.length := by
  by_cases h : 0 ≤ n ∧ n < (countL S : Int)
  · obtain ⟨m, rfl⟩ : ∃ m : Nat, n = m := ⟨n.toNat, by omega⟩
    have hm : m < countL S := by omega
    rw [boundsL_nat hm]
    exact ⟨beg_end hm, end_le hm⟩
  · rw [boundsL_out h]
    exact ⟨Nat.le_refl _, Nat.zero_le _⟩
theorem pile_txt {ts : List TextP} {w : World} (hT : ∀ r ∈ ts, Txu w r.A r.S r.l) {S : List UInt8} {l : List RunP} (h : (pileM (ts.map TextP.tp)).getD ([], []) = (S, l)) : S.length ≤ maxLen ∧ Fits l ∧ l.length ≤ maxLen := by
  have hf : ∀ x ∈ labsC (ts.map TextP.tp), x < 18446744073709551616 := by
    intro x hx
    obtain ⟨t, ht, hx⟩ := List.mem_flatMap.1 hx
    obtain ⟨r, hr, rfl⟩ := List.mem_map.1 ht
    exact bytesOf_mem (hT r hr).hf x hx
  cases hp : pileM (ts.map TextP.tp) with
  | none =>
    rw [hp] at h
    injection h with h1 h2
    subst h1 h2
    exact ⟨Nat.zero_le _, fun r hr => by simp at hr, Nat.zero_le _⟩
  | some q =>
    obtain ⟨S', l'⟩ := q
    rw [hp] at h
    injection h with h1 h2
    subst h1 h2
    have := (goodT_size (pile_good hp)).1
    exact ⟨by unfold maxLen; omega, pile_fits hf hp⟩
set_option maxHeartbeats 16000000 in
theorem refPShifted_any (A : Option Addr) (c : Nat) (S : List UInt8) (l : List RunP) (V : List UInt8) (y : Nat) (hy : y < 18446744073709551616) (op f t : Int) (hop : op = 62 ∨ op = 60) (b : Bool) (hf : 0 ≤ f) (hft : f ≤ t) (ht : t ≤ 1000000) (a e : Nat) (hp : linesP V f t b = ((a : Int), (e : Int))) (hae : a ≤ e) (he : e < countL V) (hV : V.length ≤ 4096) (w : World) (h : Txu w A S l) :
    Calls Tryz.prog 58 #[.agg #[.string ⟨S.toArray⟩, .slice A l.length c], .string ⟨V.toArray⟩, .int .u64 (y : Nat), .int .i64 op, .agg #[.int .i64 f, .int .i64 t, .bool b]] w (GivesO w (shiftedM S l V y op f t b)) := by
  obtain ⟨v, hv⟩ : ∃ v, shiftedM S l V y op f t b = v := ⟨_, rfl⟩
  rw [hv]
  unfold shiftedM at hv
  have HLI := Lib.hid (fun wx => refPLines_any V (by omega) f t b hf hft ht wx)
  rw [hp] at hv HLI
  dsimp only at hv
  have hcl := countL_le V
  have HV := Lib.hid hv
  clear hv hp
  have BX := Lib.hid (boxesE3 w 32 27 47 #[.string ⟨S.toArray⟩, .slice A l.length c] #[.int .i64 f, .int .i64 t, .bool b] #[.int .i64 0, .string ⟨#[]⟩, .slice none 0 0, .string ⟨#[]⟩, .slice none 0 0, .string ⟨#[]⟩, .slice none 0 0, .bool false, .bool false, .int .i64 0])
  have K := Lib.hid (BX.out.and ((grow_txu h).step BX.out.now.2.2.2))
  clear BX
  go_enter Tryz.func58, Tryz.ntmps58
  go_upto_region 1 with fail
  generalize ((w.alloc (.cells #[.string ⟨S.toArray⟩, .slice A l.length c] 32)).alloc (.cells #[.int .i64 f, .int .i64 t, .bool b] 27)).alloc (.cells #[.int .i64 0, .string ⟨#[]⟩, .slice none 0 0, .string ⟨#[]⟩, .slice none 0 0, .string ⟨#[]⟩, .slice none 0 0, .bool false, .bool false, .int .i64 0] 47) = wx at *
  obtain ⟨⟨z0, z1, z2, _⟩, _⟩ := rng_var K.out.now.1.2.1
  go_upto_region 4 with (go_at_call 111; refine (HLI.out _).mono ?_; rintro ee wb ⟨rfl, bb⟩; replace K := Lib.hid (K.out.step bb); clear z0 z1 z2 bb)
  have TKB : Hid (∀ w', Below wb.heap.size wb w' → TakeK w w' A none c S [] l [] f t b) := fun w' hb => by
    have k := K.out w' hb
    exact ⟨k.1.1, k.1.2.1, k.1.2.2.1, k.1.2.2.2, k.2, txu_nil⟩
  have HFL := Lib.hid h.hf
  clear K h HLI
  obtain ⟨mk, hmk⟩ : ∃ mk, makeOf [9] y = mk := ⟨_, rfl⟩
  have hokm := okT_make [9] y hy
  rw [hmk] at hokm
  obtain ⟨⟨tS, tl⟩, tn⟩ := mk
  have HMK := Lib.hid hmk
  have HOM := Lib.hid hokm
  clear hmk hokm
  go_loopw [14, 15] (fun v i wr => ∃ (k : Nat) (ts : List TextP) (A8 : Option Addr) (c8 : Nat), v = .slice A8 ts.length c8 ∧ i = .int .i64 ((a + k : Nat) : Int) ∧ a + k ≤ e + 1 ∧ Hid (TxsK wb wr A8 c8 ts) ∧ Hid (ts.map TextP.tp = shList S l V y op a e k)) (fun _ i _ => e + 1 - (intOf i).toNat)
  case atStart => exact ⟨0, [], none, 0, rfl, rfl, by omega, TxsK.start wb, rfl⟩
  case round =>
    obtain ⟨k, ts, A8, c8, rfl, rfl, hk, TX, HM⟩ := hrel
    have hlen := shList_len S l V y op a e k
    rw [← HM.out, List.length_map] at hlen
    have hlt4 : ts.length ≤ 10000 := by omega
    clear hlen
    by_cases hlt : a + k ≤ e
    · have hle : ((a + k : Nat) : Int) ≤ (e : Int) := by omega
      have HBn := Lib.hid (fun wx => refBounds_any V (by omega) ((a + k : Nat) : Int) wx)
      have hbl := bounds_leO V ((a + k : Nat) : Int)
      have hpc : shList S l V y op a e (k + 1) = shList S l V y op a e k ++ shPiece S l V y op e ((a : Int) + k) := rfl
      unfold shPiece at hpc
      rw [show (a : Int) + (k : Int) = ((a + k : Nat) : Int) by omega] at hpc
      generalize boundsL V ((a + k : Nat) : Int) = bd at *
      obtain ⟨⟨fr, wt⟩, er⟩ := bd
      dsimp only at hpc hbl
      rw [HMK.out] at hpc
      dsimp only at hpc
      have HPC := Lib.hid hpc
      have hfr : fr ≤ 4096 := by omega
      have hwt : wt ≤ 4096 := by omega
      have HAT : Hid (∀ wx, Calls Tryz.prog 112 #[.string ⟨V.toArray⟩, .int .i64 (fr : Nat)] wx fun e w' => e = .returned (.tuple #[.int .i64 (((chars V).getD (whichM (chars V) (fr : Nat)) (0, 0)).1 : Nat), .int .i64 (((chars V).getD (whichM (chars V) (fr : Nat)) (0, 0)).2 : Nat)]) ∧ Below wx.heap.size wx w') := fun wx => (refAt_any V (by omega) (fr : Nat) wx).mono fun e w' ⟨i, he, hi, hb⟩ => by
        rw [hi.unique (which_is _ _)] at he
        exact ⟨he, hb⟩
      have HR : Hid (((chars V).getD (whichM (chars V) (fr : Nat)) (0, 0)).1 ≤ 1114111) := by
        show _ ≤ _
        rcases Nat.lt_or_ge (whichM (chars V) (fr : Nat)) (chars V).length with h | h
        · have := (chars_bound V _ (List.getElem_mem h)).1
          rwa [List.getD_eq_getElem?_getD, List.getElem?_eq_getElem h]
        · rw [List.getD_eq_getElem?_getD, List.getElem?_eq_none h]
          exact Nat.zero_le _
      unfold classA at HPC
      generalize (chars V).getD (whichM (chars V) (fr : Nat)) (0, 0) = rr at *
      have HCU : Hid (∀ (p q : Int), OkT (cutOf S l p q)) := fun p q => okT_cut HFL.out p q
      clear hpc hbl
      have HLT := Lib.hid hlt
      have HK4 := Lib.hid hlt4
      rcases hop with rfl | rfl
      · by_cases hfw : fr < wt
        · have hfw1 : (fr : Int) < (wt : Int) := by omega
          by_cases hl : a + k < e
          · have hl1 : ((a + k : Nat) : Int) < (e : Int) := by omega
            obtain ⟨ct, hct⟩ : ∃ ct, cutOf S l (fr : Int) ((wt : Int) + 1) = ct := ⟨_, rfl⟩
            have hoc := HCU.out (fr : Int) ((wt : Int) + 1)
            rw [hct] at hoc
            obtain ⟨⟨cS, cl⟩, cn⟩ := ct
            have HCT := Lib.hid hct
            have HOC := Lib.hid hoc
            have HP2 : Hid (shList S l V y 62 a e (k + 1) = shList S l V y 62 a e k ++ [(tS, tl), (cS, cl)]) := by
              show _ = _
              rw [HPC.out, if_pos (⟨rfl, hfw⟩ : (62 : Int) = 62 ∧ fr < wt), if_neg (show ¬ ((62 : Int) = 60 ∧ fr < wt ∧ classL rr.1 = 0) from fun h => absurd h.1 (by decide)), if_pos hl1]
              have hct2 : cutOf S l (fr : Int) ((wt + 1 : Nat) : Int) = ((cS, cl), cn) := by rw [← HCT.out] <;> congr 1
              rw [hct2]
              rfl
            clear hct hoc HPC HCU
            go_wp2_with (first
              | (go_at_call 71; refine (HBn.out _).mono ?_; rintro ee w2 ⟨rfl, bb⟩; have TX := Lib.hid (TX.out.step bb); clear bb; obtain ⟨y0, y1⟩ := txt_cells (TKB.out _ TX.out.bel).t5)
              | (go_at_call 74; refine (refPMade_any [9] (by decide) y hy _).mono ?_; rw [HMK.out]; rintro ee w3 ⟨A6, c6, rfl, own6, bb⟩; dsimp only at own6 ⊢; have HT6 := Lib.hid (TX.out.made (Nat.le_refl _) (S := tS) (by have := HOM.out.1; dsimp only at this; unfold maxLen; omega) HOM.out.2.1 HOM.out.2.2 own6); have TX := Lib.hid (TX.out.step bb); clear bb own6 y0 y1; obtain ⟨y0, y1⟩ := txt_cells (TKB.out _ TX.out.bel).t5)
              | (at_builtin; refine wpList_pushT rfl (.tmp 60) (.tmp 63) 125 rfl wb.heap.size 32 _ 2 40 elt_textO 32 _ _ _ rfl TX.out.own [.string ⟨tS.toArray⟩, .slice A6 tl.length c6] _ rfl rfl rfl (by simp [Value.oneCell']) (by have := HK4.out; unfold maxLen; omega) (by have := HK4.out; omega) TX.out.bel.size ?_; intro v5 w5 own5 t5 n5; obtain ⟨A8, c8, ts2, hts2, rfl, TX2⟩ := TX.out.push ⟨tS, A6, c6, tl⟩ HT6.out own5 t5 n5; have HS2 := Lib.hid hts2; have HK5 : Hid (ts2.length ≤ 10001) := by {show _ ≤ _; rw [← HS2.out]; simp; exact HK4.out}; have TX := Lib.hid TX2; clear own5 t5 n5 hts2 TX2 y0 y1; obtain ⟨y0, y1⟩ := txt_cells (TKB.out _ TX.out.bel).t5)
              | (go_at_call 112; refine (HAT.out _).mono ?_; rintro ee w6 ⟨rfl, bb⟩; have TX := Lib.hid (TX.out.step bb); clear bb y0 y1; obtain ⟨y0, y1⟩ := txt_cells (TKB.out _ TX.out.bel).t5)
              | (go_at_call 113; refine (refClass_any _ HR.out _).mono ?_; rintro ee w7 ⟨rfl, hw7⟩; subst w7)
              | (go_at_call 108; refine (refTCut_any A c _ S l _ _ _ (Nat.le_refl _) (TKB.out _ TX.out.bel).tS).mono ?_; rw [HCT.out]; rintro ee w8 ⟨A9, c9, rfl, own9, bb⟩; dsimp only at own9 ⊢; have HT9 := Lib.hid ((TX.out.made (Nat.le_refl _) (S := cS) (by have := HOC.out.1; dsimp only at this; unfold maxLen; omega) HOC.out.2.1 HOC.out.2.2 own9).fresh ((Below.refl _ _).alloc (Nat.le_refl _) (.cells #[.string ⟨cS.toArray⟩, .slice A9 cl.length c9] 32))); have TX := Lib.hid ((TX.out.step bb).step ((Below.refl _ _).alloc (Nat.le_refl _) (.cells #[.string ⟨cS.toArray⟩, .slice A9 cl.length c9] 32))); clear bb own9 y0 y1)
              | (at_builtin; refine wpList_pushT rfl (.tmp 95) (.tmp 97) 125 rfl wb.heap.size 32 _ 2 40 elt_textO 32 _ _ _ rfl TX.out.own [.string ⟨cS.toArray⟩, .slice A9 cl.length c9] (w8.heap.size + 1) (World.size_alloc _ _).symm rfl rfl (by simp [Value.oneCell']) (by have := HK5.out; unfold maxLen; omega) (by have := HK5.out; omega) TX.out.bel.size ?_; intro v9 w9 own9 t9 n9; obtain ⟨A10, c10, ts3, hts3, rfl, TX3⟩ := TX.out.push ⟨cS, A9, c9, cl⟩ HT9.out own9 t9 n9; have HS3 := Lib.hid hts3; have TX := Lib.hid TX3; clear own9 t9 n9 hts3 TX3))
            go_roundw
            case rel => exact ⟨k + 1, ts3, A10, c10, rfl, by go_num, by have := HLT.out; omega, TX, by show _ = _; rw [HP2.out, ← HM.out, ← HS3.out, ← HS2.out]; simp [TextP.tp]⟩
            case measure => have := HLT.out; simp [intOf]; omega
          · have hl1 : ¬ ((a + k : Nat) : Int) < (e : Int) := by omega
            have hl2 : decide (((a + k : Nat) : Int) < (e : Int)) = false := decide_eq_false hl1
            obtain ⟨ct, hct⟩ : ∃ ct, cutOf S l (fr : Int) (wt : Int) = ct := ⟨_, rfl⟩
            have hoc := HCU.out (fr : Int) (wt : Int)
            rw [hct] at hoc
            obtain ⟨⟨cS, cl⟩, cn⟩ := ct
            have HCT := Lib.hid hct
            have HOC := Lib.hid hoc
            have HP2 : Hid (shList S l V y 62 a e (k + 1) = shList S l V y 62 a e k ++ [(tS, tl), (cS, cl)]) := by
              show _ = _
              rw [HPC.out, if_pos (⟨rfl, hfw⟩ : (62 : Int) = 62 ∧ fr < wt), if_neg (show ¬ ((62 : Int) = 60 ∧ fr < wt ∧ classL rr.1 = 0) from fun h => absurd h.1 (by decide)), if_neg hl1]
              have hct2 : cutOf S l (fr : Int) (wt : Int) = ((cS, cl), cn) := by rw [← HCT.out] <;> congr 1
              rw [hct2]
              rfl
            clear hct hoc HPC HCU
            go_wp2_with (first
              | (go_at_call 71; refine (HBn.out _).mono ?_; rintro ee w2 ⟨rfl, bb⟩; have TX := Lib.hid (TX.out.step bb); clear bb; obtain ⟨y0, y1⟩ := txt_cells (TKB.out _ TX.out.bel).t5)
              | (go_at_call 74; refine (refPMade_any [9] (by decide) y hy _).mono ?_; rw [HMK.out]; rintro ee w3 ⟨A6, c6, rfl, own6, bb⟩; dsimp only at own6 ⊢; have HT6 := Lib.hid (TX.out.made (Nat.le_refl _) (S := tS) (by have := HOM.out.1; dsimp only at this; unfold maxLen; omega) HOM.out.2.1 HOM.out.2.2 own6); have TX := Lib.hid (TX.out.step bb); clear bb own6 y0 y1; obtain ⟨y0, y1⟩ := txt_cells (TKB.out _ TX.out.bel).t5)
              | (at_builtin; refine wpList_pushT rfl (.tmp 60) (.tmp 63) 125 rfl wb.heap.size 32 _ 2 40 elt_textO 32 _ _ _ rfl TX.out.own [.string ⟨tS.toArray⟩, .slice A6 tl.length c6] _ rfl rfl rfl (by simp [Value.oneCell']) (by have := HK4.out; unfold maxLen; omega) (by have := HK4.out; omega) TX.out.bel.size ?_; intro v5 w5 own5 t5 n5; obtain ⟨A8, c8, ts2, hts2, rfl, TX2⟩ := TX.out.push ⟨tS, A6, c6, tl⟩ HT6.out own5 t5 n5; have HS2 := Lib.hid hts2; have HK5 : Hid (ts2.length ≤ 10001) := by {show _ ≤ _; rw [← HS2.out]; simp; exact HK4.out}; have TX := Lib.hid TX2; clear own5 t5 n5 hts2 TX2 y0 y1; obtain ⟨y0, y1⟩ := txt_cells (TKB.out _ TX.out.bel).t5)
              | (go_at_call 112; refine (HAT.out _).mono ?_; rintro ee w6 ⟨rfl, bb⟩; have TX := Lib.hid (TX.out.step bb); clear bb y0 y1; obtain ⟨y0, y1⟩ := txt_cells (TKB.out _ TX.out.bel).t5)
              | (go_at_call 113; refine (refClass_any _ HR.out _).mono ?_; rintro ee w7 ⟨rfl, hw7⟩; subst w7)
              | (go_at_call 108; refine (refTCut_any A c _ S l _ _ _ (Nat.le_refl _) (TKB.out _ TX.out.bel).tS).mono ?_; rw [HCT.out]; rintro ee w8 ⟨A9, c9, rfl, own9, bb⟩; dsimp only at own9 ⊢; have HT9 := Lib.hid ((TX.out.made (Nat.le_refl _) (S := cS) (by have := HOC.out.1; dsimp only at this; unfold maxLen; omega) HOC.out.2.1 HOC.out.2.2 own9).fresh ((Below.refl _ _).alloc (Nat.le_refl _) (.cells #[.string ⟨cS.toArray⟩, .slice A9 cl.length c9] 32))); have TX := Lib.hid ((TX.out.step bb).step ((Below.refl _ _).alloc (Nat.le_refl _) (.cells #[.string ⟨cS.toArray⟩, .slice A9 cl.length c9] 32))); clear bb own9 y0 y1)
              | (at_builtin; refine wpList_pushT rfl (.tmp 95) (.tmp 97) 125 rfl wb.heap.size 32 _ 2 40 elt_textO 32 _ _ _ rfl TX.out.own [.string ⟨cS.toArray⟩, .slice A9 cl.length c9] (w8.heap.size + 1) (World.size_alloc _ _).symm rfl rfl (by simp [Value.oneCell']) (by have := HK5.out; unfold maxLen; omega) (by have := HK5.out; omega) TX.out.bel.size ?_; intro v9 w9 own9 t9 n9; obtain ⟨A10, c10, ts3, hts3, rfl, TX3⟩ := TX.out.push ⟨cS, A9, c9, cl⟩ HT9.out own9 t9 n9; have HS3 := Lib.hid hts3; have TX := Lib.hid TX3; clear own9 t9 n9 hts3 TX3))
            go_roundw
            case rel => exact ⟨k + 1, ts3, A10, c10, rfl, by go_num, by have := HLT.out; omega, TX, by show _ = _; rw [HP2.out, ← HM.out, ← HS3.out, ← HS2.out]; simp [TextP.tp]⟩
            case measure => have := HLT.out; simp [intOf]; omega
        · have hfw1 : ¬ (fr : Int) < (wt : Int) := by omega
          have hfw2 : decide (fr < wt) = false := decide_eq_false hfw
          by_cases hl : a + k < e
          · have hl1 : ((a + k : Nat) : Int) < (e : Int) := by omega
            obtain ⟨ct, hct⟩ : ∃ ct, cutOf S l (fr : Int) ((wt : Int) + 1) = ct := ⟨_, rfl⟩
            have hoc := HCU.out (fr : Int) ((wt : Int) + 1)
            rw [hct] at hoc
            obtain ⟨⟨cS, cl⟩, cn⟩ := ct
            have HCT := Lib.hid hct
            have HOC := Lib.hid hoc
            have HP2 : Hid (shList S l V y 62 a e (k + 1) = shList S l V y 62 a e k ++ [(cS, cl)]) := by
              show _ = _
              rw [HPC.out, if_neg (show ¬ ((62 : Int) = 62 ∧ fr < wt) from fun h => hfw h.2), if_neg (show ¬ ((62 : Int) = 60 ∧ fr < wt ∧ classL rr.1 = 0) from fun h => absurd h.1 (by decide)), if_pos hl1]
              have hct2 : cutOf S l (fr : Int) ((wt + 1 : Nat) : Int) = ((cS, cl), cn) := by rw [← HCT.out] <;> congr 1
              rw [hct2]
              rfl
            clear hct hoc HPC HCU
            go_wp2_with (first
              | (go_at_call 71; refine (HBn.out _).mono ?_; rintro ee w2 ⟨rfl, bb⟩; have TX := Lib.hid (TX.out.step bb); clear bb; obtain ⟨y0, y1⟩ := txt_cells (TKB.out _ TX.out.bel).t5)
              | (go_at_call 74; refine (refPMade_any [9] (by decide) y hy _).mono ?_; rw [HMK.out]; rintro ee w3 ⟨A6, c6, rfl, own6, bb⟩; dsimp only at own6 ⊢; have HT6 := Lib.hid (TX.out.made (Nat.le_refl _) (S := tS) (by have := HOM.out.1; dsimp only at this; unfold maxLen; omega) HOM.out.2.1 HOM.out.2.2 own6); have TX := Lib.hid (TX.out.step bb); clear bb own6 y0 y1; obtain ⟨y0, y1⟩ := txt_cells (TKB.out _ TX.out.bel).t5)
              | (at_builtin; refine wpList_pushT rfl (.tmp 60) (.tmp 63) 125 rfl wb.heap.size 32 _ 2 40 elt_textO 32 _ _ _ rfl TX.out.own [.string ⟨tS.toArray⟩, .slice A6 tl.length c6] _ rfl rfl rfl (by simp [Value.oneCell']) (by have := HK4.out; unfold maxLen; omega) (by have := HK4.out; omega) TX.out.bel.size ?_; intro v5 w5 own5 t5 n5; obtain ⟨A8, c8, ts2, hts2, rfl, TX2⟩ := TX.out.push ⟨tS, A6, c6, tl⟩ HT6.out own5 t5 n5; have HS2 := Lib.hid hts2; have HK5 : Hid (ts2.length ≤ 10001) := by {show _ ≤ _; rw [← HS2.out]; simp; exact HK4.out}; have TX := Lib.hid TX2; clear own5 t5 n5 hts2 TX2 y0 y1; obtain ⟨y0, y1⟩ := txt_cells (TKB.out _ TX.out.bel).t5)
              | (go_at_call 112; refine (HAT.out _).mono ?_; rintro ee w6 ⟨rfl, bb⟩; have TX := Lib.hid (TX.out.step bb); clear bb y0 y1; obtain ⟨y0, y1⟩ := txt_cells (TKB.out _ TX.out.bel).t5)
              | (go_at_call 113; refine (refClass_any _ HR.out _).mono ?_; rintro ee w7 ⟨rfl, hw7⟩; subst w7)
              | (go_at_call 108; refine (refTCut_any A c _ S l _ _ _ (Nat.le_refl _) (TKB.out _ TX.out.bel).tS).mono ?_; rw [HCT.out]; rintro ee w8 ⟨A9, c9, rfl, own9, bb⟩; dsimp only at own9 ⊢; have HT9 := Lib.hid ((TX.out.made (Nat.le_refl _) (S := cS) (by have := HOC.out.1; dsimp only at this; unfold maxLen; omega) HOC.out.2.1 HOC.out.2.2 own9).fresh ((Below.refl _ _).alloc (Nat.le_refl _) (.cells #[.string ⟨cS.toArray⟩, .slice A9 cl.length c9] 32))); have TX := Lib.hid ((TX.out.step bb).step ((Below.refl _ _).alloc (Nat.le_refl _) (.cells #[.string ⟨cS.toArray⟩, .slice A9 cl.length c9] 32))); clear bb own9 y0 y1)
              | (at_builtin; refine wpList_pushT rfl (.tmp 95) (.tmp 97) 125 rfl wb.heap.size 32 _ 2 40 elt_textO 32 _ _ _ rfl TX.out.own [.string ⟨cS.toArray⟩, .slice A9 cl.length c9] (w8.heap.size + 1) (World.size_alloc _ _).symm rfl rfl (by simp [Value.oneCell']) (by have := HK4.out; unfold maxLen; omega) (by have := HK4.out; omega) TX.out.bel.size ?_; intro v9 w9 own9 t9 n9; obtain ⟨A10, c10, ts3, hts3, rfl, TX3⟩ := TX.out.push ⟨cS, A9, c9, cl⟩ HT9.out own9 t9 n9; have HS3 := Lib.hid hts3; have TX := Lib.hid TX3; clear own9 t9 n9 hts3 TX3))
            go_roundw
            case rel => exact ⟨k + 1, ts3, A10, c10, rfl, by go_num, by have := HLT.out; omega, TX, by show _ = _; rw [HP2.out, ← HM.out, ← HS3.out]; simp [TextP.tp]⟩
            case measure => have := HLT.out; simp [intOf]; omega
          · have hl1 : ¬ ((a + k : Nat) : Int) < (e : Int) := by omega
            have hl2 : decide (((a + k : Nat) : Int) < (e : Int)) = false := decide_eq_false hl1
            obtain ⟨ct, hct⟩ : ∃ ct, cutOf S l (fr : Int) (wt : Int) = ct := ⟨_, rfl⟩
            have hoc := HCU.out (fr : Int) (wt : Int)
            rw [hct] at hoc
            obtain ⟨⟨cS, cl⟩, cn⟩ := ct
            have HCT := Lib.hid hct
            have HOC := Lib.hid hoc
            have HP2 : Hid (shList S l V y 62 a e (k + 1) = shList S l V y 62 a e k ++ [(cS, cl)]) := by
              show _ = _
              rw [HPC.out, if_neg (show ¬ ((62 : Int) = 62 ∧ fr < wt) from fun h => hfw h.2), if_neg (show ¬ ((62 : Int) = 60 ∧ fr < wt ∧ classL rr.1 = 0) from fun h => absurd h.1 (by decide)), if_neg hl1]
              have hct2 : cutOf S l (fr : Int) (wt : Int) = ((cS, cl), cn) := by rw [← HCT.out] <;> congr 1
              rw [hct2]
              rfl
            clear hct hoc HPC HCU
            go_wp2_with (first
              | (go_at_call 71; refine (HBn.out _).mono ?_; rintro ee w2 ⟨rfl, bb⟩; have TX := Lib.hid (TX.out.step bb); clear bb; obtain ⟨y0, y1⟩ := txt_cells (TKB.out _ TX.out.bel).t5)
              | (go_at_call 74; refine (refPMade_any [9] (by decide) y hy _).mono ?_; rw [HMK.out]; rintro ee w3 ⟨A6, c6, rfl, own6, bb⟩; dsimp only at own6 ⊢; have HT6 := Lib.hid (TX.out.made (Nat.le_refl _) (S := tS) (by have := HOM.out.1; dsimp only at this; unfold maxLen; omega) HOM.out.2.1 HOM.out.2.2 own6); have TX := Lib.hid (TX.out.step bb); clear bb own6 y0 y1; obtain ⟨y0, y1⟩ := txt_cells (TKB.out _ TX.out.bel).t5)
              | (at_builtin; refine wpList_pushT rfl (.tmp 60) (.tmp 63) 125 rfl wb.heap.size 32 _ 2 40 elt_textO 32 _ _ _ rfl TX.out.own [.string ⟨tS.toArray⟩, .slice A6 tl.length c6] _ rfl rfl rfl (by simp [Value.oneCell']) (by have := HK4.out; unfold maxLen; omega) (by have := HK4.out; omega) TX.out.bel.size ?_; intro v5 w5 own5 t5 n5; obtain ⟨A8, c8, ts2, hts2, rfl, TX2⟩ := TX.out.push ⟨tS, A6, c6, tl⟩ HT6.out own5 t5 n5; have HS2 := Lib.hid hts2; have HK5 : Hid (ts2.length ≤ 10001) := by {show _ ≤ _; rw [← HS2.out]; simp; exact HK4.out}; have TX := Lib.hid TX2; clear own5 t5 n5 hts2 TX2 y0 y1; obtain ⟨y0, y1⟩ := txt_cells (TKB.out _ TX.out.bel).t5)
              | (go_at_call 112; refine (HAT.out _).mono ?_; rintro ee w6 ⟨rfl, bb⟩; have TX := Lib.hid (TX.out.step bb); clear bb y0 y1; obtain ⟨y0, y1⟩ := txt_cells (TKB.out _ TX.out.bel).t5)
              | (go_at_call 113; refine (refClass_any _ HR.out _).mono ?_; rintro ee w7 ⟨rfl, hw7⟩; subst w7)
              | (go_at_call 108; refine (refTCut_any A c _ S l _ _ _ (Nat.le_refl _) (TKB.out _ TX.out.bel).tS).mono ?_; rw [HCT.out]; rintro ee w8 ⟨A9, c9, rfl, own9, bb⟩; dsimp only at own9 ⊢; have HT9 := Lib.hid ((TX.out.made (Nat.le_refl _) (S := cS) (by have := HOC.out.1; dsimp only at this; unfold maxLen; omega) HOC.out.2.1 HOC.out.2.2 own9).fresh ((Below.refl _ _).alloc (Nat.le_refl _) (.cells #[.string ⟨cS.toArray⟩, .slice A9 cl.length c9] 32))); have TX := Lib.hid ((TX.out.step bb).step ((Below.refl _ _).alloc (Nat.le_refl _) (.cells #[.string ⟨cS.toArray⟩, .slice A9 cl.length c9] 32))); clear bb own9 y0 y1)
              | (at_builtin; refine wpList_pushT rfl (.tmp 95) (.tmp 97) 125 rfl wb.heap.size 32 _ 2 40 elt_textO 32 _ _ _ rfl TX.out.own [.string ⟨cS.toArray⟩, .slice A9 cl.length c9] (w8.heap.size + 1) (World.size_alloc _ _).symm rfl rfl (by simp [Value.oneCell']) (by have := HK4.out; unfold maxLen; omega) (by have := HK4.out; omega) TX.out.bel.size ?_; intro v9 w9 own9 t9 n9; obtain ⟨A10, c10, ts3, hts3, rfl, TX3⟩ := TX.out.push ⟨cS, A9, c9, cl⟩ HT9.out own9 t9 n9; have HS3 := Lib.hid hts3; have TX := Lib.hid TX3; clear own9 t9 n9 hts3 TX3))
            go_roundw
            case rel => exact ⟨k + 1, ts3, A10, c10, rfl, by go_num, by have := HLT.out; omega, TX, by show _ = _; rw [HP2.out, ← HM.out, ← HS3.out]; simp [TextP.tp]⟩
            case measure => have := HLT.out; simp [intOf]; omega
      · by_cases hfw : fr < wt
        · have hfw1 : (fr : Int) < (wt : Int) := by omega
          by_cases hcz : classL rr.1 = 0
          · have hcz1 : ((classL rr.1 : Int) == 0) = true := by rw [beq_iff_eq]; omega
            by_cases hl : a + k < e
            · have hl1 : ((a + k : Nat) : Int) < (e : Int) := by omega
              obtain ⟨ct, hct⟩ : ∃ ct, cutOf S l ((fr : Int) + 1) ((wt : Int) + 1) = ct := ⟨_, rfl⟩
              have hoc := HCU.out ((fr : Int) + 1) ((wt : Int) + 1)
              rw [hct] at hoc
              obtain ⟨⟨cS, cl⟩, cn⟩ := ct
              have HCT := Lib.hid hct
              have HOC := Lib.hid hoc
              have HP2 : Hid (shList S l V y 60 a e (k + 1) = shList S l V y 60 a e k ++ [(cS, cl)]) := by
                show _ = _
                rw [HPC.out, if_neg (show ¬ ((60 : Int) = 62 ∧ fr < wt) from fun h => absurd h.1 (by decide)), if_pos (⟨rfl, hfw, hcz⟩ : (60 : Int) = 60 ∧ fr < wt ∧ classL rr.1 = 0), if_pos hl1]
                have hct2 : cutOf S l ((fr + 1 : Nat) : Int) ((wt + 1 : Nat) : Int) = ((cS, cl), cn) := by rw [← HCT.out] <;> congr 1
                rw [hct2]
                rfl
              clear hct hoc HPC HCU
              go_wp2_with (first
                | (go_at_call 71; refine (HBn.out _).mono ?_; rintro ee w2 ⟨rfl, bb⟩; have TX := Lib.hid (TX.out.step bb); clear bb; obtain ⟨y0, y1⟩ := txt_cells (TKB.out _ TX.out.bel).t5)
                | (go_at_call 74; refine (refPMade_any [9] (by decide) y hy _).mono ?_; rw [HMK.out]; rintro ee w3 ⟨A6, c6, rfl, own6, bb⟩; dsimp only at own6 ⊢; have HT6 := Lib.hid (TX.out.made (Nat.le_refl _) (S := tS) (by have := HOM.out.1; dsimp only at this; unfold maxLen; omega) HOM.out.2.1 HOM.out.2.2 own6); have TX := Lib.hid (TX.out.step bb); clear bb own6 y0 y1; obtain ⟨y0, y1⟩ := txt_cells (TKB.out _ TX.out.bel).t5)
                | (at_builtin; refine wpList_pushT rfl (.tmp 60) (.tmp 63) 125 rfl wb.heap.size 32 _ 2 40 elt_textO 32 _ _ _ rfl TX.out.own [.string ⟨tS.toArray⟩, .slice A6 tl.length c6] _ rfl rfl rfl (by simp [Value.oneCell']) (by have := HK4.out; unfold maxLen; omega) (by have := HK4.out; omega) TX.out.bel.size ?_; intro v5 w5 own5 t5 n5; obtain ⟨A8, c8, ts2, hts2, rfl, TX2⟩ := TX.out.push ⟨tS, A6, c6, tl⟩ HT6.out own5 t5 n5; have HS2 := Lib.hid hts2; have HK5 : Hid (ts2.length ≤ 10001) := by {show _ ≤ _; rw [← HS2.out]; simp; exact HK4.out}; have TX := Lib.hid TX2; clear own5 t5 n5 hts2 TX2 y0 y1; obtain ⟨y0, y1⟩ := txt_cells (TKB.out _ TX.out.bel).t5)
                | (go_at_call 112; refine (HAT.out _).mono ?_; rintro ee w6 ⟨rfl, bb⟩; have TX := Lib.hid (TX.out.step bb); clear bb y0 y1; obtain ⟨y0, y1⟩ := txt_cells (TKB.out _ TX.out.bel).t5)
                | (go_at_call 113; refine (refClass_any _ HR.out _).mono ?_; rintro ee w7 ⟨rfl, hw7⟩; subst w7)
                | (go_at_call 108; refine (refTCut_any A c _ S l _ _ _ (Nat.le_refl _) (TKB.out _ TX.out.bel).tS).mono ?_; rw [HCT.out]; rintro ee w8 ⟨A9, c9, rfl, own9, bb⟩; dsimp only at own9 ⊢; have HT9 := Lib.hid ((TX.out.made (Nat.le_refl _) (S := cS) (by have := HOC.out.1; dsimp only at this; unfold maxLen; omega) HOC.out.2.1 HOC.out.2.2 own9).fresh ((Below.refl _ _).alloc (Nat.le_refl _) (.cells #[.string ⟨cS.toArray⟩, .slice A9 cl.length c9] 32))); have TX := Lib.hid ((TX.out.step bb).step ((Below.refl _ _).alloc (Nat.le_refl _) (.cells #[.string ⟨cS.toArray⟩, .slice A9 cl.length c9] 32))); clear bb own9 y0 y1)
                | (at_builtin; refine wpList_pushT rfl (.tmp 95) (.tmp 97) 125 rfl wb.heap.size 32 _ 2 40 elt_textO 32 _ _ _ rfl TX.out.own [.string ⟨cS.toArray⟩, .slice A9 cl.length c9] (w8.heap.size + 1) (World.size_alloc _ _).symm rfl rfl (by simp [Value.oneCell']) (by have := HK4.out; unfold maxLen; omega) (by have := HK4.out; omega) TX.out.bel.size ?_; intro v9 w9 own9 t9 n9; obtain ⟨A10, c10, ts3, hts3, rfl, TX3⟩ := TX.out.push ⟨cS, A9, c9, cl⟩ HT9.out own9 t9 n9; have HS3 := Lib.hid hts3; have TX := Lib.hid TX3; clear own9 t9 n9 hts3 TX3))
              go_roundw
              case rel => exact ⟨k + 1, ts3, A10, c10, rfl, by go_num, by have := HLT.out; omega, TX, by show _ = _; rw [HP2.out, ← HM.out, ← HS3.out]; simp [TextP.tp]⟩
              case measure => have := HLT.out; simp [intOf]; omega
            · have hl1 : ¬ ((a + k : Nat) : Int) < (e : Int) := by omega
              have hl2 : decide (((a + k : Nat) : Int) < (e : Int)) = false := decide_eq_false hl1
              obtain ⟨ct, hct⟩ : ∃ ct, cutOf S l ((fr : Int) + 1) (wt : Int) = ct := ⟨_, rfl⟩
              have hoc := HCU.out ((fr : Int) + 1) (wt : Int)
              rw [hct] at hoc
              obtain ⟨⟨cS, cl⟩, cn⟩ := ct
              have HCT := Lib.hid hct
              have HOC := Lib.hid hoc
              have HP2 : Hid (shList S l V y 60 a e (k + 1) = shList S l V y 60 a e k ++ [(cS, cl)]) := by
                show _ = _
                rw [HPC.out, if_neg (show ¬ ((60 : Int) = 62 ∧ fr < wt) from fun h => absurd h.1 (by decide)), if_pos (⟨rfl, hfw, hcz⟩ : (60 : Int) = 60 ∧ fr < wt ∧ classL rr.1 = 0), if_neg hl1]
                have hct2 : cutOf S l ((fr + 1 : Nat) : Int) (wt : Int) = ((cS, cl), cn) := by rw [← HCT.out] <;> congr 1
                rw [hct2]
                rfl
              clear hct hoc HPC HCU
              go_wp2_with (first
                | (go_at_call 71; refine (HBn.out _).mono ?_; rintro ee w2 ⟨rfl, bb⟩; have TX := Lib.hid (TX.out.step bb); clear bb; obtain ⟨y0, y1⟩ := txt_cells (TKB.out _ TX.out.bel).t5)
                | (go_at_call 74; refine (refPMade_any [9] (by decide) y hy _).mono ?_; rw [HMK.out]; rintro ee w3 ⟨A6, c6, rfl, own6, bb⟩; dsimp only at own6 ⊢; have HT6 := Lib.hid (TX.out.made (Nat.le_refl _) (S := tS) (by have := HOM.out.1; dsimp only at this; unfold maxLen; omega) HOM.out.2.1 HOM.out.2.2 own6); have TX := Lib.hid (TX.out.step bb); clear bb own6 y0 y1; obtain ⟨y0, y1⟩ := txt_cells (TKB.out _ TX.out.bel).t5)
                | (at_builtin; refine wpList_pushT rfl (.tmp 60) (.tmp 63) 125 rfl wb.heap.size 32 _ 2 40 elt_textO 32 _ _ _ rfl TX.out.own [.string ⟨tS.toArray⟩, .slice A6 tl.length c6] _ rfl rfl rfl (by simp [Value.oneCell']) (by have := HK4.out; unfold maxLen; omega) (by have := HK4.out; omega) TX.out.bel.size ?_; intro v5 w5 own5 t5 n5; obtain ⟨A8, c8, ts2, hts2, rfl, TX2⟩ := TX.out.push ⟨tS, A6, c6, tl⟩ HT6.out own5 t5 n5; have HS2 := Lib.hid hts2; have HK5 : Hid (ts2.length ≤ 10001) := by {show _ ≤ _; rw [← HS2.out]; simp; exact HK4.out}; have TX := Lib.hid TX2; clear own5 t5 n5 hts2 TX2 y0 y1; obtain ⟨y0, y1⟩ := txt_cells (TKB.out _ TX.out.bel).t5)
                | (go_at_call 112; refine (HAT.out _).mono ?_; rintro ee w6 ⟨rfl, bb⟩; have TX := Lib.hid (TX.out.step bb); clear bb y0 y1; obtain ⟨y0, y1⟩ := txt_cells (TKB.out _ TX.out.bel).t5)
                | (go_at_call 113; refine (refClass_any _ HR.out _).mono ?_; rintro ee w7 ⟨rfl, hw7⟩; subst w7)
                | (go_at_call 108; refine (refTCut_any A c _ S l _ _ _ (Nat.le_refl _) (TKB.out _ TX.out.bel).tS).mono ?_; rw [HCT.out]; rintro ee w8 ⟨A9, c9, rfl, own9, bb⟩; dsimp only at own9 ⊢; have HT9 := Lib.hid ((TX.out.made (Nat.le_refl _) (S := cS) (by have := HOC.out.1; dsimp only at this; unfold maxLen; omega) HOC.out.2.1 HOC.out.2.2 own9).fresh ((Below.refl _ _).alloc (Nat.le_refl _) (.cells #[.string ⟨cS.toArray⟩, .slice A9 cl.length c9] 32))); have TX := Lib.hid ((TX.out.step bb).step ((Below.refl _ _).alloc (Nat.le_refl _) (.cells #[.string ⟨cS.toArray⟩, .slice A9 cl.length c9] 32))); clear bb own9 y0 y1)
                | (at_builtin; refine wpList_pushT rfl (.tmp 95) (.tmp 97) 125 rfl wb.heap.size 32 _ 2 40 elt_textO 32 _ _ _ rfl TX.out.own [.string ⟨cS.toArray⟩, .slice A9 cl.length c9] (w8.heap.size + 1) (World.size_alloc _ _).symm rfl rfl (by simp [Value.oneCell']) (by have := HK4.out; unfold maxLen; omega) (by have := HK4.out; omega) TX.out.bel.size ?_; intro v9 w9 own9 t9 n9; obtain ⟨A10, c10, ts3, hts3, rfl, TX3⟩ := TX.out.push ⟨cS, A9, c9, cl⟩ HT9.out own9 t9 n9; have HS3 := Lib.hid hts3; have TX := Lib.hid TX3; clear own9 t9 n9 hts3 TX3))
              go_roundw
              case rel => exact ⟨k + 1, ts3, A10, c10, rfl, by go_num, by have := HLT.out; omega, TX, by show _ = _; rw [HP2.out, ← HM.out, ← HS3.out]; simp [TextP.tp]⟩
              case measure => have := HLT.out; simp [intOf]; omega
          · have hcz1 : ((classL rr.1 : Int) == 0) = false := by rw [beq_eq_false_iff_ne]; omega
            by_cases hl : a + k < e
            · have hl1 : ((a + k : Nat) : Int) < (e : Int) := by omega
              obtain ⟨ct, hct⟩ : ∃ ct, cutOf S l (fr : Int) ((wt : Int) + 1) = ct := ⟨_, rfl⟩
              have hoc := HCU.out (fr : Int) ((wt : Int) + 1)
              rw [hct] at hoc
              obtain ⟨⟨cS, cl⟩, cn⟩ := ct
              have HCT := Lib.hid hct
              have HOC := Lib.hid hoc
              have HP2 : Hid (shList S l V y 60 a e (k + 1) = shList S l V y 60 a e k ++ [(cS, cl)]) := by
                show _ = _
                rw [HPC.out, if_neg (show ¬ ((60 : Int) = 62 ∧ fr < wt) from fun h => absurd h.1 (by decide)), if_neg (show ¬ ((60 : Int) = 60 ∧ fr < wt ∧ classL rr.1 = 0) from fun h => hcz h.2.2), if_pos hl1]
                have hct2 : cutOf S l (fr : Int) ((wt + 1 : Nat) : Int) = ((cS, cl), cn) := by rw [← HCT.out] <;> congr 1
                rw [hct2]
                rfl
              clear hct hoc HPC HCU
              go_wp2_with (first
                | (go_at_call 71; refine (HBn.out _).mono ?_; rintro ee w2 ⟨rfl, bb⟩; have TX := Lib.hid (TX.out.step bb); clear bb; obtain ⟨y0, y1⟩ := txt_cells (TKB.out _ TX.out.bel).t5)
                | (go_at_call 74; refine (refPMade_any [9] (by decide) y hy _).mono ?_; rw [HMK.out]; rintro ee w3 ⟨A6, c6, rfl, own6, bb⟩; dsimp only at own6 ⊢; have HT6 := Lib.hid (TX.out.made (Nat.le_refl _) (S := tS) (by have := HOM.out.1; dsimp only at this; unfold maxLen; omega) HOM.out.2.1 HOM.out.2.2 own6); have TX := Lib.hid (TX.out.step bb); clear bb own6 y0 y1; obtain ⟨y0, y1⟩ := txt_cells (TKB.out _ TX.out.bel).t5)
                | (at_builtin; refine wpList_pushT rfl (.tmp 60) (.tmp 63) 125 rfl wb.heap.size 32 _ 2 40 elt_textO 32 _ _ _ rfl TX.out.own [.string ⟨tS.toArray⟩, .slice A6 tl.length c6] _ rfl rfl rfl (by simp [Value.oneCell']) (by have := HK4.out; unfold maxLen; omega) (by have := HK4.out; omega) TX.out.bel.size ?_; intro v5 w5 own5 t5 n5; obtain ⟨A8, c8, ts2, hts2, rfl, TX2⟩ := TX.out.push ⟨tS, A6, c6, tl⟩ HT6.out own5 t5 n5; have HS2 := Lib.hid hts2; have HK5 : Hid (ts2.length ≤ 10001) := by {show _ ≤ _; rw [← HS2.out]; simp; exact HK4.out}; have TX := Lib.hid TX2; clear own5 t5 n5 hts2 TX2 y0 y1; obtain ⟨y0, y1⟩ := txt_cells (TKB.out _ TX.out.bel).t5)
                | (go_at_call 112; refine (HAT.out _).mono ?_; rintro ee w6 ⟨rfl, bb⟩; have TX := Lib.hid (TX.out.step bb); clear bb y0 y1; obtain ⟨y0, y1⟩ := txt_cells (TKB.out _ TX.out.bel).t5)
                | (go_at_call 113; refine (refClass_any _ HR.out _).mono ?_; rintro ee w7 ⟨rfl, hw7⟩; subst w7)
                | (go_at_call 108; refine (refTCut_any A c _ S l _ _ _ (Nat.le_refl _) (TKB.out _ TX.out.bel).tS).mono ?_; rw [HCT.out]; rintro ee w8 ⟨A9, c9, rfl, own9, bb⟩; dsimp only at own9 ⊢; have HT9 := Lib.hid ((TX.out.made (Nat.le_refl _) (S := cS) (by have := HOC.out.1; dsimp only at this; unfold maxLen; omega) HOC.out.2.1 HOC.out.2.2 own9).fresh ((Below.refl _ _).alloc (Nat.le_refl _) (.cells #[.string ⟨cS.toArray⟩, .slice A9 cl.length c9] 32))); have TX := Lib.hid ((TX.out.step bb).step ((Below.refl _ _).alloc (Nat.le_refl _) (.cells #[.string ⟨cS.toArray⟩, .slice A9 cl.length c9] 32))); clear bb own9 y0 y1)
                | (at_builtin; refine wpList_pushT rfl (.tmp 95) (.tmp 97) 125 rfl wb.heap.size 32 _ 2 40 elt_textO 32 _ _ _ rfl TX.out.own [.string ⟨cS.toArray⟩, .slice A9 cl.length c9] (w8.heap.size + 1) (World.size_alloc _ _).symm rfl rfl (by simp [Value.oneCell']) (by have := HK4.out; unfold maxLen; omega) (by have := HK4.out; omega) TX.out.bel.size ?_; intro v9 w9 own9 t9 n9; obtain ⟨A10, c10, ts3, hts3, rfl, TX3⟩ := TX.out.push ⟨cS, A9, c9, cl⟩ HT9.out own9 t9 n9; have HS3 := Lib.hid hts3; have TX := Lib.hid TX3; clear own9 t9 n9 hts3 TX3))
              go_roundw
              case rel => exact ⟨k + 1, ts3, A10, c10, rfl, by go_num, by have := HLT.out; omega, TX, by show _ = _; rw [HP2.out, ← HM.out, ← HS3.out]; simp [TextP.tp]⟩
              case measure => have := HLT.out; simp [intOf]; omega
            · have hl1 : ¬ ((a + k : Nat) : Int) < (e : Int) := by omega
              have hl2 : decide (((a + k : Nat) : Int) < (e : Int)) = false := decide_eq_false hl1
              obtain ⟨ct, hct⟩ : ∃ ct, cutOf S l (fr : Int) (wt : Int) = ct := ⟨_, rfl⟩
              have hoc := HCU.out (fr : Int) (wt : Int)
              rw [hct] at hoc
              obtain ⟨⟨cS, cl⟩, cn⟩ := ct
              have HCT := Lib.hid hct
              have HOC := Lib.hid hoc
              have HP2 : Hid (shList S l V y 60 a e (k + 1) = shList S l V y 60 a e k ++ [(cS, cl)]) := by
                show _ = _
                rw [HPC.out, if_neg (show ¬ ((60 : Int) = 62 ∧ fr < wt) from fun h => absurd h.1 (by decide)), if_neg (show ¬ ((60 : Int) = 60 ∧ fr < wt ∧ classL rr.1 = 0) from fun h => hcz h.2.2), if_neg hl1]
                have hct2 : cutOf S l (fr : Int) (wt : Int) = ((cS, cl), cn) := by rw [← HCT.out] <;> congr 1
                rw [hct2]
                rfl
              clear hct hoc HPC HCU
              go_wp2_with (first
                | (go_at_call 71; refine (HBn.out _).mono ?_; rintro ee w2 ⟨rfl, bb⟩; have TX := Lib.hid (TX.out.step bb); clear bb; obtain ⟨y0, y1⟩ := txt_cells (TKB.out _ TX.out.bel).t5)
                | (go_at_call 74; refine (refPMade_any [9] (by decide) y hy _).mono ?_; rw [HMK.out]; rintro ee w3 ⟨A6, c6, rfl, own6, bb⟩; dsimp only at own6 ⊢; have HT6 := Lib.hid (TX.out.made (Nat.le_refl _) (S := tS) (by have := HOM.out.1; dsimp only at this; unfold maxLen; omega) HOM.out.2.1 HOM.out.2.2 own6); have TX := Lib.hid (TX.out.step bb); clear bb own6 y0 y1; obtain ⟨y0, y1⟩ := txt_cells (TKB.out _ TX.out.bel).t5)
                | (at_builtin; refine wpList_pushT rfl (.tmp 60) (.tmp 63) 125 rfl wb.heap.size 32 _ 2 40 elt_textO 32 _ _ _ rfl TX.out.own [.string ⟨tS.toArray⟩, .slice A6 tl.length c6] _ rfl rfl rfl (by simp [Value.oneCell']) (by have := HK4.out; unfold maxLen; omega) (by have := HK4.out; omega) TX.out.bel.size ?_; intro v5 w5 own5 t5 n5; obtain ⟨A8, c8, ts2, hts2, rfl, TX2⟩ := TX.out.push ⟨tS, A6, c6, tl⟩ HT6.out own5 t5 n5; have HS2 := Lib.hid hts2; have HK5 : Hid (ts2.length ≤ 10001) := by {show _ ≤ _; rw [← HS2.out]; simp; exact HK4.out}; have TX := Lib.hid TX2; clear own5 t5 n5 hts2 TX2 y0 y1; obtain ⟨y0, y1⟩ := txt_cells (TKB.out _ TX.out.bel).t5)
                | (go_at_call 112; refine (HAT.out _).mono ?_; rintro ee w6 ⟨rfl, bb⟩; have TX := Lib.hid (TX.out.step bb); clear bb y0 y1; obtain ⟨y0, y1⟩ := txt_cells (TKB.out _ TX.out.bel).t5)
                | (go_at_call 113; refine (refClass_any _ HR.out _).mono ?_; rintro ee w7 ⟨rfl, hw7⟩; subst w7)
                | (go_at_call 108; refine (refTCut_any A c _ S l _ _ _ (Nat.le_refl _) (TKB.out _ TX.out.bel).tS).mono ?_; rw [HCT.out]; rintro ee w8 ⟨A9, c9, rfl, own9, bb⟩; dsimp only at own9 ⊢; have HT9 := Lib.hid ((TX.out.made (Nat.le_refl _) (S := cS) (by have := HOC.out.1; dsimp only at this; unfold maxLen; omega) HOC.out.2.1 HOC.out.2.2 own9).fresh ((Below.refl _ _).alloc (Nat.le_refl _) (.cells #[.string ⟨cS.toArray⟩, .slice A9 cl.length c9] 32))); have TX := Lib.hid ((TX.out.step bb).step ((Below.refl _ _).alloc (Nat.le_refl _) (.cells #[.string ⟨cS.toArray⟩, .slice A9 cl.length c9] 32))); clear bb own9 y0 y1)
                | (at_builtin; refine wpList_pushT rfl (.tmp 95) (.tmp 97) 125 rfl wb.heap.size 32 _ 2 40 elt_textO 32 _ _ _ rfl TX.out.own [.string ⟨cS.toArray⟩, .slice A9 cl.length c9] (w8.heap.size + 1) (World.size_alloc _ _).symm rfl rfl (by simp [Value.oneCell']) (by have := HK4.out; unfold maxLen; omega) (by have := HK4.out; omega) TX.out.bel.size ?_; intro v9 w9 own9 t9 n9; obtain ⟨A10, c10, ts3, hts3, rfl, TX3⟩ := TX.out.push ⟨cS, A9, c9, cl⟩ HT9.out own9 t9 n9; have HS3 := Lib.hid hts3; have TX := Lib.hid TX3; clear own9 t9 n9 hts3 TX3))
              go_roundw
              case rel => exact ⟨k + 1, ts3, A10, c10, rfl, by go_num, by have := HLT.out; omega, TX, by show _ = _; rw [HP2.out, ← HM.out, ← HS3.out]; simp [TextP.tp]⟩
              case measure => have := HLT.out; simp [intOf]; omega
        · have hfw1 : ¬ (fr : Int) < (wt : Int) := by omega
          have hfw2 : decide (fr < wt) = false := decide_eq_false hfw
          by_cases hl : a + k < e
          · have hl1 : ((a + k : Nat) : Int) < (e : Int) := by omega
            obtain ⟨ct, hct⟩ : ∃ ct, cutOf S l (fr : Int) ((wt : Int) + 1) = ct := ⟨_, rfl⟩
            have hoc := HCU.out (fr : Int) ((wt : Int) + 1)
            rw [hct] at hoc
            obtain ⟨⟨cS, cl⟩, cn⟩ := ct
            have HCT := Lib.hid hct
            have HOC := Lib.hid hoc
            have HP2 : Hid (shList S l V y 60 a e (k + 1) = shList S l V y 60 a e k ++ [(cS, cl)]) := by
              show _ = _
              rw [HPC.out, if_neg (show ¬ ((60 : Int) = 62 ∧ fr < wt) from fun h => absurd h.1 (by decide)), if_neg (show ¬ ((60 : Int) = 60 ∧ fr < wt ∧ classL rr.1 = 0) from fun h => hfw h.2.1), if_pos hl1]
              have hct2 : cutOf S l (fr : Int) ((wt + 1 : Nat) : Int) = ((cS, cl), cn) := by rw [← HCT.out] <;> congr 1
              rw [hct2]
              rfl
            clear hct hoc HPC HCU
            go_wp2_with (first
              | (go_at_call 71; refine (HBn.out _).mono ?_; rintro ee w2 ⟨rfl, bb⟩; have TX := Lib.hid (TX.out.step bb); clear bb; obtain ⟨y0, y1⟩ := txt_cells (TKB.out _ TX.out.bel).t5)
              | (go_at_call 74; refine (refPMade_any [9] (by decide) y hy _).mono ?_; rw [HMK.out]; rintro ee w3 ⟨A6, c6, rfl, own6, bb⟩; dsimp only at own6 ⊢; have HT6 := Lib.hid (TX.out.made (Nat.le_refl _) (S := tS) (by have := HOM.out.1; dsimp only at this; unfold maxLen; omega) HOM.out.2.1 HOM.out.2.2 own6); have TX := Lib.hid (TX.out.step bb); clear bb own6 y0 y1; obtain ⟨y0, y1⟩ := txt_cells (TKB.out _ TX.out.bel).t5)
              | (at_builtin; refine wpList_pushT rfl (.tmp 60) (.tmp 63) 125 rfl wb.heap.size 32 _ 2 40 elt_textO 32 _ _ _ rfl TX.out.own [.string ⟨tS.toArray⟩, .slice A6 tl.length c6] _ rfl rfl rfl (by simp [Value.oneCell']) (by have := HK4.out; unfold maxLen; omega) (by have := HK4.out; omega) TX.out.bel.size ?_; intro v5 w5 own5 t5 n5; obtain ⟨A8, c8, ts2, hts2, rfl, TX2⟩ := TX.out.push ⟨tS, A6, c6, tl⟩ HT6.out own5 t5 n5; have HS2 := Lib.hid hts2; have HK5 : Hid (ts2.length ≤ 10001) := by {show _ ≤ _; rw [← HS2.out]; simp; exact HK4.out}; have TX := Lib.hid TX2; clear own5 t5 n5 hts2 TX2 y0 y1; obtain ⟨y0, y1⟩ := txt_cells (TKB.out _ TX.out.bel).t5)
              | (go_at_call 112; refine (HAT.out _).mono ?_; rintro ee w6 ⟨rfl, bb⟩; have TX := Lib.hid (TX.out.step bb); clear bb y0 y1; obtain ⟨y0, y1⟩ := txt_cells (TKB.out _ TX.out.bel).t5)
              | (go_at_call 113; refine (refClass_any _ HR.out _).mono ?_; rintro ee w7 ⟨rfl, hw7⟩; subst w7)
              | (go_at_call 108; refine (refTCut_any A c _ S l _ _ _ (Nat.le_refl _) (TKB.out _ TX.out.bel).tS).mono ?_; rw [HCT.out]; rintro ee w8 ⟨A9, c9, rfl, own9, bb⟩; dsimp only at own9 ⊢; have HT9 := Lib.hid ((TX.out.made (Nat.le_refl _) (S := cS) (by have := HOC.out.1; dsimp only at this; unfold maxLen; omega) HOC.out.2.1 HOC.out.2.2 own9).fresh ((Below.refl _ _).alloc (Nat.le_refl _) (.cells #[.string ⟨cS.toArray⟩, .slice A9 cl.length c9] 32))); have TX := Lib.hid ((TX.out.step bb).step ((Below.refl _ _).alloc (Nat.le_refl _) (.cells #[.string ⟨cS.toArray⟩, .slice A9 cl.length c9] 32))); clear bb own9 y0 y1)
              | (at_builtin; refine wpList_pushT rfl (.tmp 95) (.tmp 97) 125 rfl wb.heap.size 32 _ 2 40 elt_textO 32 _ _ _ rfl TX.out.own [.string ⟨cS.toArray⟩, .slice A9 cl.length c9] (w8.heap.size + 1) (World.size_alloc _ _).symm rfl rfl (by simp [Value.oneCell']) (by have := HK4.out; unfold maxLen; omega) (by have := HK4.out; omega) TX.out.bel.size ?_; intro v9 w9 own9 t9 n9; obtain ⟨A10, c10, ts3, hts3, rfl, TX3⟩ := TX.out.push ⟨cS, A9, c9, cl⟩ HT9.out own9 t9 n9; have HS3 := Lib.hid hts3; have TX := Lib.hid TX3; clear own9 t9 n9 hts3 TX3))
            go_roundw
            case rel => exact ⟨k + 1, ts3, A10, c10, rfl, by go_num, by have := HLT.out; omega, TX, by show _ = _; rw [HP2.out, ← HM.out, ← HS3.out]; simp [TextP.tp]⟩
            case measure => have := HLT.out; simp [intOf]; omega
          · have hl1 : ¬ ((a + k : Nat) : Int) < (e : Int) := by omega
            have hl2 : decide (((a + k : Nat) : Int) < (e : Int)) = false := decide_eq_false hl1
            obtain ⟨ct, hct⟩ : ∃ ct, cutOf S l (fr : Int) (wt : Int) = ct := ⟨_, rfl⟩
            have hoc := HCU.out (fr : Int) (wt : Int)
            rw [hct] at hoc
            obtain ⟨⟨cS, cl⟩, cn⟩ := ct
            have HCT := Lib.hid hct
            have HOC := Lib.hid hoc
            have HP2 : Hid (shList S l V y 60 a e (k + 1) = shList S l V y 60 a e k ++ [(cS, cl)]) := by
              show _ = _
              rw [HPC.out, if_neg (show ¬ ((60 : Int) = 62 ∧ fr < wt) from fun h => absurd h.1 (by decide)), if_neg (show ¬ ((60 : Int) = 60 ∧ fr < wt ∧ classL rr.1 = 0) from fun h => hfw h.2.1), if_neg hl1]
              have hct2 : cutOf S l (fr : Int) (wt : Int) = ((cS, cl), cn) := by rw [← HCT.out] <;> congr 1
              rw [hct2]
              rfl
            clear hct hoc HPC HCU
            go_wp2_with (first
              | (go_at_call 71; refine (HBn.out _).mono ?_; rintro ee w2 ⟨rfl, bb⟩; have TX := Lib.hid (TX.out.step bb); clear bb; obtain ⟨y0, y1⟩ := txt_cells (TKB.out _ TX.out.bel).t5)
              | (go_at_call 74; refine (refPMade_any [9] (by decide) y hy _).mono ?_; rw [HMK.out]; rintro ee w3 ⟨A6, c6, rfl, own6, bb⟩; dsimp only at own6 ⊢; have HT6 := Lib.hid (TX.out.made (Nat.le_refl _) (S := tS) (by have := HOM.out.1; dsimp only at this; unfold maxLen; omega) HOM.out.2.1 HOM.out.2.2 own6); have TX := Lib.hid (TX.out.step bb); clear bb own6 y0 y1; obtain ⟨y0, y1⟩ := txt_cells (TKB.out _ TX.out.bel).t5)
              | (at_builtin; refine wpList_pushT rfl (.tmp 60) (.tmp 63) 125 rfl wb.heap.size 32 _ 2 40 elt_textO 32 _ _ _ rfl TX.out.own [.string ⟨tS.toArray⟩, .slice A6 tl.length c6] _ rfl rfl rfl (by simp [Value.oneCell']) (by have := HK4.out; unfold maxLen; omega) (by have := HK4.out; omega) TX.out.bel.size ?_; intro v5 w5 own5 t5 n5; obtain ⟨A8, c8, ts2, hts2, rfl, TX2⟩ := TX.out.push ⟨tS, A6, c6, tl⟩ HT6.out own5 t5 n5; have HS2 := Lib.hid hts2; have HK5 : Hid (ts2.length ≤ 10001) := by {show _ ≤ _; rw [← HS2.out]; simp; exact HK4.out}; have TX := Lib.hid TX2; clear own5 t5 n5 hts2 TX2 y0 y1; obtain ⟨y0, y1⟩ := txt_cells (TKB.out _ TX.out.bel).t5)
              | (go_at_call 112; refine (HAT.out _).mono ?_; rintro ee w6 ⟨rfl, bb⟩; have TX := Lib.hid (TX.out.step bb); clear bb y0 y1; obtain ⟨y0, y1⟩ := txt_cells (TKB.out _ TX.out.bel).t5)
              | (go_at_call 113; refine (refClass_any _ HR.out _).mono ?_; rintro ee w7 ⟨rfl, hw7⟩; subst w7)
              | (go_at_call 108; refine (refTCut_any A c _ S l _ _ _ (Nat.le_refl _) (TKB.out _ TX.out.bel).tS).mono ?_; rw [HCT.out]; rintro ee w8 ⟨A9, c9, rfl, own9, bb⟩; dsimp only at own9 ⊢; have HT9 := Lib.hid ((TX.out.made (Nat.le_refl _) (S := cS) (by have := HOC.out.1; dsimp only at this; unfold maxLen; omega) HOC.out.2.1 HOC.out.2.2 own9).fresh ((Below.refl _ _).alloc (Nat.le_refl _) (.cells #[.string ⟨cS.toArray⟩, .slice A9 cl.length c9] 32))); have TX := Lib.hid ((TX.out.step bb).step ((Below.refl _ _).alloc (Nat.le_refl _) (.cells #[.string ⟨cS.toArray⟩, .slice A9 cl.length c9] 32))); clear bb own9 y0 y1)
              | (at_builtin; refine wpList_pushT rfl (.tmp 95) (.tmp 97) 125 rfl wb.heap.size 32 _ 2 40 elt_textO 32 _ _ _ rfl TX.out.own [.string ⟨cS.toArray⟩, .slice A9 cl.length c9] (w8.heap.size + 1) (World.size_alloc _ _).symm rfl rfl (by simp [Value.oneCell']) (by have := HK4.out; unfold maxLen; omega) (by have := HK4.out; omega) TX.out.bel.size ?_; intro v9 w9 own9 t9 n9; obtain ⟨A10, c10, ts3, hts3, rfl, TX3⟩ := TX.out.push ⟨cS, A9, c9, cl⟩ HT9.out own9 t9 n9; have HS3 := Lib.hid hts3; have TX := Lib.hid TX3; clear own9 t9 n9 hts3 TX3))
            go_roundw
            case rel => exact ⟨k + 1, ts3, A10, c10, rfl, by go_num, by have := HLT.out; omega, TX, by show _ = _; rw [HP2.out, ← HM.out, ← HS3.out]; simp [TextP.tp]⟩
            case measure => have := HLT.out; simp [intOf]; omega
    · have hN : ((e : Int) - (a : Int) + 1).toNat = k := by omega
      have hle : ¬ ((a + k : Nat) : Int) ≤ (e : Int) := by omega
      have hv := HV.out
      clear HV
      rw [hN, ← HM.out] at hv
      obtain ⟨pp, hpp⟩ : ∃ pp, (pileM (ts.map TextP.tp)).getD ([], []) = pp := ⟨_, rfl⟩
      obtain ⟨bl, hbl⟩ : ∃ bl, (pileM (ts.map TextP.tp)).isSome = bl := ⟨_, rfl⟩
      rw [hpp, hbl] at hv
      obtain ⟨XS, xl⟩ := pp
      have HPT := Lib.hid (pile_txt TX.out.txu hpp)
      have HPI : Hid (∀ wx, TxsK wb wx A8 c8 ts → Calls Tryz.prog 114 #[.slice A8 ts.length c8] wx fun e w' => ∃ A c, e = .returned (.tuple #[.agg #[.string ⟨XS.toArray⟩, .slice A xl.length c], .bool bl]) ∧ w'.ownsRow wx.heap.size 77 2 (.slice A xl.length c) xl.length (flatR xl) ∧ Below wx.heap.size wx w') := fun wx hx => by
        have := refPPiled_any A8 c8 ts (by omega) wx hx.txu (Row.of_own hx.own)
        unfold GivesTB at this
        rw [hpp, hbl] at this
        exact this
      have HB1 := Lib.hid (fun wx => refBounds_any V (by omega) (a : Int) wx)
      have HB2 := Lib.hid (fun wx => refBounds_any V (by omega) (e : Int) wx)
      obtain ⟨q1, hq1⟩ : ∃ q, boundsL V (a : Int) = q := ⟨_, rfl⟩
      obtain ⟨q2, hq2⟩ : ∃ q, boundsL V (e : Int) = q := ⟨_, rfl⟩
      rw [hq1] at hv HB1
      rw [hq2] at hv HB2
      obtain ⟨⟨fa, wa⟩, ra⟩ := q1
      obtain ⟨⟨fe, we⟩, re⟩ := q2
      dsimp only at hv
      obtain ⟨tm, htm⟩ : ∃ tm, turnedM S l y (fa : Nat) (we : Nat) XS xl bl = tm := ⟨_, rfl⟩
      rw [htm] at hv
      have hW := turned_view S l y (fa : Nat) (we : Nat) XS xl bl
      rw [htm] at hW
      have HTM := Lib.hid htm
      have HV := Lib.hid hv
      clear hv htm hq1 hq2 hpp hbl HM HMK HOM HFL
      obtain ⟨⟨⟨ea, ES, el, EX, em⟩, W⟩, n⟩ := tm
      dsimp only at hW
      go_upto_region 18 with (go_at_call 71; refine (HB1.out _).mono ?_; rintro ee w2 ⟨rfl, bb⟩; replace TX := Lib.hid (TX.out.step bb); clear bb)
      go_upto_region 19 with (go_at_call 71; refine (HB2.out _).mono ?_; rintro ee w3 ⟨rfl, bb⟩; replace TX := Lib.hid (TX.out.step bb); clear bb)
      go_upto_region 20 with (go_at_call 114; refine (HPI.out _ TX.out).mono ?_; rintro ee w4 ⟨A9, c9, rfl, own9, bb⟩; replace TX := Lib.hid (TX.out.step bb); clear bb; have HROW := Lib.hid (Row.of_own own9); clear own9)
      have T0 : Hid (TakeK w w4 A A9 c S XS l xl f t b) := by
        have k := TKB.out _ TX.out.bel
        exact ⟨k.t5, k.rg, k.res, k.bel, k.tS, ⟨HPT.out.1, HPT.out.2.1, HPT.out.2.2, HROW.out⟩⟩
      have T := Lib.hid (T0.out.step ((Below.refl _ _).alloc (Nat.le_refl _) (.cells #[.string ⟨XS.toArray⟩, .slice A9 xl.length c9] 32)))
      have V29 := Lib.hid (Blk.new w4 32 #[.string ⟨XS.toArray⟩, .slice A9 xl.length c9])
      clear T0 TX TKB HROW HPT HPI HB1 HB2
      generalize hg29 : w4.heap.size = g29 at *
      generalize w4.alloc (.cells #[.string ⟨XS.toArray⟩, .slice A9 xl.length c9] 32) = w5 at *
      clear hg29
      obtain ⟨z0, z1⟩ := txt_cells V29.out
      obtain ⟨y0, y1⟩ := txt_cells T.out.t5
      go_upto_region 21 with (go_at_call 73; refine (refPTurned_any A A9 c c9 S l y hy (fa : Nat) (we : Nat) XS xl bl _ T.out.tS T.out.tX).mono ?_; rw [HTM.out]; rintro ee w6 ⟨A4, c4, B4, d4, rfl, rA, rB, bb⟩; dsimp only at rA rB ⊢; have HG31 : Hid (w.heap.size + 1 + 1 < w6.heap.size) := (T.out.step bb).res.lt; have T3 := Lib.hid ((T.out.step bb).step ((Below.refl _ _).alloc (Nat.le_refl _) (.cells #[.int .i64 ea, .string ⟨ES.toArray⟩, .slice A4 el.length c4, .string ⟨EX.toArray⟩, .slice B4 em.length d4] 41))); have RA := Lib.hid (row_step rA ((Below.refl _ _).alloc (Nat.le_refl _) (.cells #[.int .i64 ea, .string ⟨ES.toArray⟩, .slice A4 el.length c4, .string ⟨EX.toArray⟩, .slice B4 em.length d4] 41))); have RB := Lib.hid (row_step rB ((Below.refl _ _).alloc (Nat.le_refl _) (.cells #[.int .i64 ea, .string ⟨ES.toArray⟩, .slice A4 el.length c4, .string ⟨EX.toArray⟩, .slice B4 em.length d4] 41))); have V3 := Lib.hid (Blk.new w6 41 #[.int .i64 ea, .string ⟨ES.toArray⟩, .slice A4 el.length c4, .string ⟨EX.toArray⟩, .slice B4 em.length d4]); clear rA rB bb)
      clear y0 y1 z0 z1 T V29
      generalize hg31 : w6.heap.size = g31 at *
      generalize w6.alloc (.cells #[.int .i64 ea, .string ⟨ES.toArray⟩, .slice A4 el.length c4, .string ⟨EX.toArray⟩, .slice B4 em.length d4] 41) = w7 at *
      clear hg31
      by_cases hn : n = 0
      · subst hn
        have HV2 := Lib.hid ((if_pos rfl).symm.trans HV.out)
        clear HV
        have HFI := Lib.hid (fun wx => refFirst_any W (by omega) (a : Int) wx)
        go_upto_region 23 with fail
        have hb0 : Below w7.heap.size w7 w7 := Below.refl _ _
        have KSB : Hid (∀ w', Below w7.heap.size w7 w' → Blk w' g31 41 #[.int .i64 ea, .string ⟨ES.toArray⟩, .slice A4 el.length c4, .string ⟨EX.toArray⟩, .slice B4 em.length d4]) := fun w' hb => V3.out.below hb V3.out.lt
        have KS : Hid (∀ w', Below w7.heap.size w7 w' → (w'.cell? ⟨g31, 0, none⟩ = some (.int .i64 ea) ∧ w'.cell? ⟨g31, 1, none⟩ = some (.string ⟨ES.toArray⟩) ∧ w'.cell? ⟨g31, 2, none⟩ = some (.slice A4 el.length c4) ∧ w'.cell? ⟨g31, 3, none⟩ = some (.string ⟨EX.toArray⟩) ∧ w'.cell? ⟨g31, 4, none⟩ = some (.slice B4 em.length d4))) := fun w' hb => ed_cells (V3.out.below hb V3.out.lt)
        refine wp_region_held_drew (S := fun w' => (w'.cell? ⟨g31, 0, none⟩ = some (.int .i64 ea) ∧ w'.cell? ⟨g31, 1, none⟩ = some (.string ⟨ES.toArray⟩) ∧ w'.cell? ⟨g31, 2, none⟩ = some (.slice A4 el.length c4) ∧ w'.cell? ⟨g31, 3, none⟩ = some (.string ⟨EX.toArray⟩) ∧ w'.cell? ⟨g31, 4, none⟩ = some (.slice B4 em.length d4))) (by kernel_rfl) (KS.out _ (below_dr hb0)) (fun hHeld => ?_)
        refine wpAnyH_take (i := 0) (v := ?_) rfl (by kernel_rfl) (by kernel_rfl) (by kernel_rfl) (fun _ _ _ h => h) (Or.inl ⟨by rfl, ?_⟩) (by assumption) ?_
        rotate_left
        · (intro w hSw; obtain ⟨q0, q1, q2, q3, q4⟩ := hSw; go_simp; (try with_reducible rfl))
        (try simp only [List.getElem_toArray, List.getElem_cons_zero, Act.put, List.setIfInBounds_toArray, List.set_cons_zero, List.set_cons_succ])
        refine wpAnyH_take (i := 1) (v := ?_) rfl (by kernel_rfl) (by kernel_rfl) (by kernel_rfl) (fun _ _ _ h => h) (Or.inl ⟨by rfl, ?_⟩) (by assumption) ?_
        rotate_left
        · (intro w hSw; obtain ⟨q0, q1, q2, q3, q4⟩ := hSw; go_simp; (try with_reducible rfl))
        (try simp only [List.getElem_toArray, List.getElem_cons_zero, List.getElem_cons_succ, Act.put, List.setIfInBounds_toArray, List.set_cons_zero, List.set_cons_succ])
        refine wpAnyH_take (i := 2) (v := ?_) rfl (by kernel_rfl) (by kernel_rfl) (by kernel_rfl) (fun _ _ _ h => h) (Or.inl ⟨by rfl, ?_⟩) (by assumption) ?_
        rotate_left
        · (intro w hSw; obtain ⟨q0, q1, q2, q3, q4⟩ := hSw; go_simp; (try with_reducible rfl))
        (try simp only [List.getElem_toArray, List.getElem_cons_zero, List.getElem_cons_succ, Act.put, List.setIfInBounds_toArray, List.set_cons_zero, List.set_cons_succ])
        refine wpAnyH_ready (rs := [3]) (by kernel_rfl) (by simp) ?_
        refine AllReadyH.cons rfl (fun K hK => ?_) AllReadyH.nil
        go_simp
        refine (HFI.out _).mono ?_
        rintro ee w9 ⟨rfl, hby⟩
        have hbx : Below w7.heap.size w7 w9 := (below_dr hb0).trans hby
        (try go_wp2_with fail)
        refine hK.out _ _ (KS.out _ hbx) (fun hHeld => ?_)
        clear hK K
        (try simp only [List.getElem_toArray, List.getElem_cons_zero, List.getElem_cons_succ, Act.put, List.setIfInBounds_toArray, List.set_cons_zero, List.set_cons_succ])
        refine wpAnyH_take (i := 4) (v := ?_) rfl (by kernel_rfl) (by kernel_rfl) (by kernel_rfl) (fun _ _ _ h => h) (Or.inl ⟨by rfl, ?_⟩) (by assumption) ?_
        rotate_left
        · (intro w hSw; obtain ⟨q0, q1, q2, q3, q4⟩ := hSw; go_simp; (try with_reducible rfl))
        (try simp only [List.getElem_toArray, List.getElem_cons_zero, List.getElem_cons_succ, Act.put, List.setIfInBounds_toArray, List.set_cons_zero, List.set_cons_succ])
        have T9 := Lib.hid (T3.out.step hbx)
        have RA9 := Lib.hid (row_step RA.out hbx)
        have RB9 := Lib.hid (row_step RB.out hbx)
        obtain ⟨⟨r0, r1, r2, r3, r4, r5, r6, r7, r8, r9⟩, t0, t1, t2, t3, t4, t5, t6, t7, t8, t9⟩ := out_cells T9.out.res
        refine wpAnyH_ready (rs := [5]) (by kernel_rfl) (by simp) ?_
        refine AllReadyH.cons rfl (fun K hK => ?_) AllReadyH.nil
        go_simp
        refine hK.out _ _ (show _ from ed_cells (setMany_far (KSB.out _ hbx) (by have := HG31.out; omega) [(0, .int .i64 ea), (1, .string ⟨ES.toArray⟩), (2, .slice A4 el.length c4), (3, .string ⟨EX.toArray⟩), (4, .slice B4 em.length d4), (5, .string ⟨#[]⟩), (6, .slice none 0 0), (7, .bool false), (8, .bool false), (9, .int .i64 (firstL W (a : Int) : Nat))])) (fun hHeld => ?_)
        clear hK K
        (try simp only [List.getElem_toArray, List.getElem_cons_zero, List.getElem_cons_succ, Act.put, List.setIfInBounds_toArray, List.set_cons_zero, List.set_cons_succ])
        refine wpAnyH_ready (rs := [6]) (by kernel_rfl) (by simp) ?_
        refine AllReadyH.cons rfl (fun K hK => ?_) AllReadyH.nil
        go_simp
        refine hK.out _ _ (show _ from ed_cells (setMany_far (KSB.out _ hbx) (by have := HG31.out; omega) [(0, .int .i64 ea), (1, .string ⟨ES.toArray⟩), (2, .slice A4 el.length c4), (3, .string ⟨EX.toArray⟩), (4, .slice B4 em.length d4), (5, .string ⟨#[]⟩), (6, .slice none 0 0), (7, .bool false), (8, .bool false), (9, .int .i64 (firstL W (a : Int) : Nat))])) (fun hHeld => ?_)
        clear hK K
        (try simp only [List.getElem_toArray, List.getElem_cons_zero, List.getElem_cons_succ, Act.put, List.setIfInBounds_toArray, List.set_cons_zero, List.set_cons_succ])
        refine wpAnyH_done (by kernel_rfl) ?_ _
        go_wp2_with fail
        have EE := out_end (A := A4) (B := B4) (C := none) (l := el) (m := em) (q := []) T9.out.res noLab_out T9.out.bel (by omega) RA9.out RB9.out (.inl rfl) [(0, .int .i64 ea), (1, .string ⟨ES.toArray⟩), (2, .slice A4 el.length c4), (3, .string ⟨EX.toArray⟩), (4, .slice B4 em.length d4), (5, .string ⟨#[]⟩), (6, .slice none 0 0), (7, .bool false), (8, .bool false), (9, .int .i64 (firstL W (a : Int) : Nat))]
        have EB : Blk (setMany w9 (w.heap.size + 1 + 1) [(0, .int .i64 ea), (1, .string ⟨ES.toArray⟩), (2, .slice A4 el.length c4), (3, .string ⟨EX.toArray⟩), (4, .slice B4 em.length d4), (5, .string ⟨#[]⟩), (6, .slice none 0 0), (7, .bool false), (8, .bool false), (9, .int .i64 (firstL W (a : Int) : Nat))]) (w.heap.size + 1 + 1) 47 #[.int .i64 ea, .string ⟨ES.toArray⟩, .slice A4 el.length c4, .string ⟨EX.toArray⟩, .slice B4 em.length d4, .string ⟨#[]⟩, .slice none 0 0, .bool false, .bool false, .int .i64 (firstL W (a : Int) : Nat)] := out_ten T9.out.res _ _ _ _ _ _ _ _ _ _
        change bodyPost _ _ _ _ _ (setMany w9 (w.heap.size + 1 + 1) [(0, .int .i64 ea), (1, .string ⟨ES.toArray⟩), (2, .slice A4 el.length c4), (3, .string ⟨EX.toArray⟩), (4, .slice B4 em.length d4), (5, .string ⟨#[]⟩), (6, .slice none 0 0), (7, .bool false), (8, .bool false), (9, .int .i64 (firstL W (a : Int) : Nat))])
        generalize setMany w9 (w.heap.size + 1 + 1) [(0, .int .i64 ea), (1, .string ⟨ES.toArray⟩), (2, .slice A4 el.length c4), (3, .string ⟨EX.toArray⟩), (4, .slice B4 em.length d4), (5, .string ⟨#[]⟩), (6, .slice none 0 0), (7, .bool false), (8, .bool false), (9, .int .i64 (firstL W (a : Int) : Nat))] = wz at *
        refine ret_out rfl _ _ (w.heap.size + 1 + 1) #[.int .i64 ea, .string ⟨ES.toArray⟩, .slice A4 el.length c4, .string ⟨EX.toArray⟩, .slice B4 em.length d4, .string ⟨#[]⟩, .slice none 0 0, .bool false, .bool false, .int .i64 (firstL W (a : Int) : Nat)] rfl rfl EB rfl ?_
        rw [← HV2.out]
        exact ⟨A4, c4, B4, d4, none, 0, rfl, EE.1, EE.2.1, EE.2.2.1, EE.2.2.2⟩
      · have HV2 := Lib.hid ((if_neg hn).symm.trans HV.out)
        clear HV
        have hn1 : ((n : Int) == 0) = false := by rw [beq_eq_false_iff_ne]; omega
        have hn2 : ((n : Int) != 0) = true := by rw [bne_iff_ne]; omega
        obtain ⟨⟨r0, r1, r2, r3, r4, r5, r6, r7, r8, r9⟩, t0, t1, t2, t3, t4, t5, t6, t7, t8, t9⟩ := out_cells T3.out.res
        go_wp2_with fail
        have EE := out_end (A := none) (B := none) (C := none) (l := []) (m := []) (q := []) T3.out.res noLab_out T3.out.bel (by omega) (.inl rfl) (.inl rfl) (.inl rfl) [(0, .int .i64 0), (1, .string ⟨#[]⟩), (2, .slice none 0 0), (3, .string ⟨#[]⟩), (4, .slice none 0 0), (5, .string ⟨#[]⟩), (6, .slice none 0 0), (7, .bool false), (8, .bool false), (9, .int .i64 0)]
        have EB : Blk (setMany w7 (w.heap.size + 1 + 1) [(0, .int .i64 0), (1, .string ⟨#[]⟩), (2, .slice none 0 0), (3, .string ⟨#[]⟩), (4, .slice none 0 0), (5, .string ⟨#[]⟩), (6, .slice none 0 0), (7, .bool false), (8, .bool false), (9, .int .i64 0)]) (w.heap.size + 1 + 1) 47 #[.int .i64 0, .string ⟨#[]⟩, .slice none 0 0, .string ⟨#[]⟩, .slice none 0 0, .string ⟨#[]⟩, .slice none 0 0, .bool false, .bool false, .int .i64 0] := out_ten T3.out.res _ _ _ _ _ _ _ _ _ _
        change bodyPost _ _ _ _ _ (setMany w7 (w.heap.size + 1 + 1) [(0, .int .i64 0), (1, .string ⟨#[]⟩), (2, .slice none 0 0), (3, .string ⟨#[]⟩), (4, .slice none 0 0), (5, .string ⟨#[]⟩), (6, .slice none 0 0), (7, .bool false), (8, .bool false), (9, .int .i64 0)])
        generalize setMany w7 (w.heap.size + 1 + 1) [(0, .int .i64 0), (1, .string ⟨#[]⟩), (2, .slice none 0 0), (3, .string ⟨#[]⟩), (4, .slice none 0 0), (5, .string ⟨#[]⟩), (6, .slice none 0 0), (7, .bool false), (8, .bool false), (9, .int .i64 0)] = wz at *
        refine ret_out rfl _ _ (w.heap.size + 1 + 1) #[.int .i64 0, .string ⟨#[]⟩, .slice none 0 0, .string ⟨#[]⟩, .slice none 0 0, .string ⟨#[]⟩, .slice none 0 0, .bool false, .bool false, .int .i64 0] rfl rfl EB rfl ?_
        rw [← HV2.out]
        exact ⟨none, 0, none, 0, none, 0, rfl, EE.1, EE.2.1, EE.2.2.1, EE.2.2.2⟩
end Go.Proofs.YtgpmfkedcoiopaaGreatDoor

/-
  The document's joined, J: the plain part: layer 14.
-/
namespace Go.Proofs.YtgpmfkedcoiopaaGreatDoor
open Go.RowKit
set_option maxRecDepth 100000

/-- a row of one text that the program has just made -/
theorem TxsK.one {wb w1 : World} (r : TextP) (hb : Below wb.heap.size wb w1) (h : Txu w1 r.A r.S r.l) :
    TxsK wb (w1.alloc (.cells #[.string ⟨r.S.toArray⟩, .slice r.A r.l.length r.c] 32)) (some ⟨w1.heap.size, 0, none⟩) 1 [r] := by
  have h1 : Below w1.heap.size w1 (w1.alloc (.cells #[.string ⟨r.S.toArray⟩, .slice r.A r.l.length r.c] 32)) := (Below.refl _ _).alloc (Nat.le_refl _) _
  refine ⟨?_, fun x hx => ?_, hb.trans (h1.mono hb.size)⟩
  · exact ⟨rfl, .inr ⟨w1.heap.size, 1, #[.string ⟨r.S.toArray⟩, .slice r.A r.l.length r.c], rfl, hb.size, heap_alloc_new w1 _, Nat.le_refl _, by unfold maxLen; omega, rfl, rfl⟩⟩
  · rw [List.mem_singleton] at hx
    subst hx
    exact ⟨h.hS, h.hf, h.hl, RowO.of_row (h.row.below h1) h1.size fun k hk hp => by injection hp with hp; subst hp; exact Nat.lt_irrefl _ hk⟩
/-- where the blanks that begin at x end, before t -/
def skipB (V : List UInt8) (t : Nat) : Nat → Nat → Nat
  | 0, x => x
  | k + 1, x => if x < t ∧ (V.getD x 0 = 32 ∨ V.getD x 0 = 9) then skipB V t k (x + 1) else x
theorem skipB_le (V : List UInt8) (t : Nat) : ∀ k x, x ≤ t → x ≤ skipB V t k x ∧ skipB V t k x ≤ t
  | 0, x, h => ⟨Nat.le_refl _, h⟩
  | k + 1, x, h => by
    unfold skipB
    split
    · next hc =>
      have := skipB_le V t k (x + 1) hc.1
      exact ⟨by omega, this.2⟩
    · exact ⟨Nat.le_refl _, h⟩
/-- the blanks from x on, before t -/
def blankB (V : List UInt8) (t x : Nat) : Nat := skipB V t (t - x) x
theorem blankB_go {V : List UInt8} {t x : Nat} (h : x < t) (hb : V.getD x 0 = 32 ∨ V.getD x 0 = 9) : blankB V t (x + 1) = blankB V t x := by
  unfold blankB
  obtain ⟨k, hk⟩ : ∃ k, t - x = k + 1 := ⟨t - x - 1, by omega⟩
  rw [hk, show t - (x + 1) = k by omega, skipB, if_pos ⟨h, hb⟩]
theorem blankB_no {V : List UInt8} {t x : Nat} (h : ¬ (x < t ∧ (V.getD x 0 = 32 ∨ V.getD x 0 = 9))) : blankB V t x = x := by
  unfold blankB
  cases t - x with
  | zero => rfl
  | succ k => rw [skipB, if_neg h]
theorem blankB_le {V : List UInt8} {t x : Nat} (h : x ≤ t) : x ≤ blankB V t x ∧ blankB V t x ≤ t := skipB_le V t _ x h
/-- what line n gives to J: a space of one's own, or none, and the line without its blanks -/
def joPiece (S : List UInt8) (l : List RunP) (V : List UInt8) (y : Nat) (n : Int) : List TP :=
  let b := (boundsL V n).1
  let fr := blankB V b.2 b.1
  (if fr < b.2 then [(makeOf [32] y).1] else []) ++ [(cutOf S l (fr : Nat) (b.2 : Nat)).1]
def joList (S : List UInt8) (l : List RunP) (V : List UInt8) (y : Nat) (a : Int) : Nat → List TP
  | 0 => [(cutOf S l ((boundsL V a).1.1 : Nat) ((boundsL V a).1.2 : Nat)).1]
  | k + 1 => joList S l V y a k ++ joPiece S l V y (a + 1 + k)
def joAt (S : List UInt8) (l : List RunP) (V : List UInt8) (y : Nat) (a : Int) : Nat → Nat
  | 0 => 0
  | k + 1 => (boundsL V a).1.1 + ((pileM (joList S l V y a k)).getD ([], [])).1.length
def joEnd (V : List UInt8) (a : Int) : Nat → Nat
  | 0 => (boundsL V a).1.2
  | k + 1 => (boundsL V (a + 1 + k)).1.2
theorem joList_len (S : List UInt8) (l : List RunP) (V : List UInt8) (y : Nat) (a : Int) : ∀ k, (joList S l V y a k).length ≤ 2 * k + 1
  | 0 => Nat.le_refl _
  | k + 1 => by
    have ih := joList_len S l V y a k
    have h : (joPiece S l V y (a + 1 + k)).length ≤ 2 := by
      unfold joPiece
      dsimp only
      split <;> simp
    show (joList S l V y a k ++ joPiece S l V y (a + 1 + k)).length ≤ _
    rw [List.length_append]
    omega
theorem pile_len (L : List TP) : ((pileM L).getD ([], [])).1.length ≤ 4096 := by
  unfold pileM
  split
  · next h => exact h.2
  · exact Nat.zero_le _
/-- J -/
def joinedM (S : List UInt8) (l : List RunP) (V : List UInt8) (y : Nat) (f t : Int) (b : Bool) : OutP × Nat :=
  let p := linesP V f t b
  let e := max p.2 (p.1 + 1)
  if (countL V : Int) ≤ e then (out0, 6) else
  let k := (e - p.1).toNat
  let x := pileM (joList S l V y p.1 k)
  let tm := turnedM S l y (boundsL V p.1).1.1 (joEnd V p.1 k) (x.getD ([], [])).1 (x.getD ([], [])).2 x.isSome
  if tm.2 = 0 then (⟨tm.1.1, [], [], false, false, (joAt S l V y p.1 k : Nat)⟩, 0) else (out0, tm.2)
end Go.Proofs.YtgpmfkedcoiopaaGreatDoor

/-
  The document's joined, J: its walk: layer 14.
-/
namespace Go.Proofs.YtgpmfkedcoiopaaGreatDoor
open Go.RowKit
set_option maxRecDepth 100000
set_option maxHeartbeats 16000000 in
theorem refPJoined_any (A : Option Addr) (c : Nat) (S : List UInt8) (l : List RunP) (V : List UInt8) (y : Nat) (hy : y < 18446744073709551616) (f t : Int) (b : Bool) (hf : 0 ≤ f) (hft : f ≤ t) (ht : t ≤ 1000000) (a e0 e : Nat) (hp : linesP V f t b = ((a : Int), (e0 : Int))) (ha : a ≤ 1000000) (_he0 : e0 ≤ 1000000) (hmx : max e0 (a + 1) = e) (hV : V.length ≤ 4096) (w : World) (h : Txu w A S l) :
    Calls Tryz.prog 60 #[.agg #[.string ⟨S.toArray⟩, .slice A l.length c], .string ⟨V.toArray⟩, .int .u64 (y : Nat), .agg #[.int .i64 f, .int .i64 t, .bool b]] w (GivesO w (joinedM S l V y f t b)) := by
  obtain ⟨v, hv⟩ : ∃ v, joinedM S l V y f t b = v := ⟨_, rfl⟩
  rw [hv]
  unfold joinedM at hv
  have HLI := Lib.hid (fun wx => refPLines_any V (by omega) f t b hf hft ht wx)
  rw [hp] at hv HLI
  dsimp only at hv
  have hcl := countL_le V
  rw [show max (e0 : Int) ((a : Int) + 1) = (e : Int) by omega, show ((e : Int) - (a : Int)).toNat = e - a by omega] at hv
  have HV := Lib.hid hv
  have HMX := Lib.hid hmx
  clear hv hp hmx
  have BX := Lib.hid (boxesE3 w 32 27 47 #[.string ⟨S.toArray⟩, .slice A l.length c] #[.int .i64 f, .int .i64 t, .bool b] #[.int .i64 0, .string ⟨#[]⟩, .slice none 0 0, .string ⟨#[]⟩, .slice none 0 0, .string ⟨#[]⟩, .slice none 0 0, .bool false, .bool false, .int .i64 0])
  have K := Lib.hid (BX.out.and ((grow_txu h).step BX.out.now.2.2.2))
  clear BX
  go_enter Tryz.func60, Tryz.ntmps60
  go_upto_region 1 with fail
  generalize ((w.alloc (.cells #[.string ⟨S.toArray⟩, .slice A l.length c] 32)).alloc (.cells #[.int .i64 f, .int .i64 t, .bool b] 27)).alloc (.cells #[.int .i64 0, .string ⟨#[]⟩, .slice none 0 0, .string ⟨#[]⟩, .slice none 0 0, .string ⟨#[]⟩, .slice none 0 0, .bool false, .bool false, .int .i64 0] 47) = wx at *
  obtain ⟨⟨z0, z1, z2, _⟩, _⟩ := rng_var K.out.now.1.2.1
  go_upto_region 2 with (go_at_call 111; refine (HLI.out _).mono ?_; rintro ee wb ⟨rfl, bb⟩; replace K := Lib.hid (K.out.step bb); clear z0 z1 z2 bb)
  have TKB : Hid (∀ w', Below wb.heap.size wb w' → TakeK w w' A none c S [] l [] f t b) := fun w' hb => by
    have k := K.out w' hb
    exact ⟨k.1.1, k.1.2.1, k.1.2.2.1, k.1.2.2.2, k.2, txu_nil⟩
  have HFL := Lib.hid h.hf
  clear K h HLI
  go_cut [11] (fun s11 wx => s11 = .int .i64 (e : Nat) ∧ wx = wb)
  case first =>
    by_cases hm : a + 1 ≤ e0
    · have he : e0 = e := by have := HMX.out; omega
      subst he
      have hm1 : ((a : Int) + 1) ≤ (e0 : Int) := by omega
      have hm2 : ¬ (e0 : Int) < ((a : Int) + 1) := by omega
      have hm3 : max (e0 : Int) ((a : Int) + 1) = (e0 : Int) := by omega
      go_wp2_with fail
      go_meet
      exact ⟨rfl, rfl⟩
    · have he : a + 1 = e := by have := HMX.out; omega
      subst he
      have hm1 : ¬ ((a : Int) + 1) ≤ (e0 : Int) := by omega
      have hm2 : (e0 : Int) < ((a : Int) + 1) := by omega
      have hm3 : max (e0 : Int) ((a : Int) + 1) = ((a + 1 : Nat) : Int) := by omega
      go_wp2_with fail
      go_meet
      exact ⟨rfl, rfl⟩
  case rest =>
    obtain ⟨rfl, hwc⟩ := hcut
    have hwc := hwc.symm
    subst hwc
    have hae : a + 1 ≤ e := by have := HMX.out; omega
    have HC := Lib.hid (fun wx => refCount_any V (by omega) wx)
    by_cases hc : countL V ≤ e
    · have hv := Lib.hid ((if_pos (show (countL V : Int) ≤ (e : Int) by omega)).symm.trans HV.out)
      have hc1 : (countL V : Int) ≤ (e : Int) := by omega
      go_upto_region 4 with (go_at_call 106; refine (HC.out _).mono ?_; rintro ee w2 ⟨rfl, bb⟩; have T3 := Lib.hid ((TKB.out _ (Below.refl _ _)).step bb); clear bb)
      obtain ⟨⟨r0, r1, r2, r3, r4, r5, r6, r7, r8, r9⟩, t0, t1, t2, t3, t4, t5, t6, t7, t8, t9⟩ := out_cells T3.out.res
      go_wp2_with fail
      have EE := out_end (A := none) (B := none) (C := none) (l := []) (m := []) (q := []) T3.out.res noLab_out T3.out.bel (by omega) (.inl rfl) (.inl rfl) (.inl rfl) [(0, .int .i64 0), (1, .string ⟨#[]⟩), (2, .slice none 0 0), (3, .string ⟨#[]⟩), (4, .slice none 0 0), (5, .string ⟨#[]⟩), (6, .slice none 0 0), (7, .bool false), (8, .bool false), (9, .int .i64 0)]
      have EB : Blk (setMany w2 (w.heap.size + 1 + 1) [(0, .int .i64 0), (1, .string ⟨#[]⟩), (2, .slice none 0 0), (3, .string ⟨#[]⟩), (4, .slice none 0 0), (5, .string ⟨#[]⟩), (6, .slice none 0 0), (7, .bool false), (8, .bool false), (9, .int .i64 0)]) (w.heap.size + 1 + 1) 47 #[.int .i64 0, .string ⟨#[]⟩, .slice none 0 0, .string ⟨#[]⟩, .slice none 0 0, .string ⟨#[]⟩, .slice none 0 0, .bool false, .bool false, .int .i64 0] := out_ten T3.out.res _ _ _ _ _ _ _ _ _ _
      change bodyPost _ _ _ _ _ (setMany w2 (w.heap.size + 1 + 1) [(0, .int .i64 0), (1, .string ⟨#[]⟩), (2, .slice none 0 0), (3, .string ⟨#[]⟩), (4, .slice none 0 0), (5, .string ⟨#[]⟩), (6, .slice none 0 0), (7, .bool false), (8, .bool false), (9, .int .i64 0)])
      generalize setMany w2 (w.heap.size + 1 + 1) [(0, .int .i64 0), (1, .string ⟨#[]⟩), (2, .slice none 0 0), (3, .string ⟨#[]⟩), (4, .slice none 0 0), (5, .string ⟨#[]⟩), (6, .slice none 0 0), (7, .bool false), (8, .bool false), (9, .int .i64 0)] = wz at *
      refine ret_out rfl _ _ (w.heap.size + 1 + 1) #[.int .i64 0, .string ⟨#[]⟩, .slice none 0 0, .string ⟨#[]⟩, .slice none 0 0, .string ⟨#[]⟩, .slice none 0 0, .bool false, .bool false, .int .i64 0] rfl rfl EB rfl ?_
      rw [← hv.out]
      exact ⟨none, 0, none, 0, none, 0, rfl, EE.1, EE.2.1, EE.2.2.1, EE.2.2.2⟩
    · have hv := (if_neg (show ¬ (countL V : Int) ≤ (e : Int) by omega)).symm.trans HV.out
      have hc1 : ¬ (countL V : Int) ≤ (e : Int) := by omega
      have HV := Lib.hid hv
      clear hv
      obtain ⟨q0, hq0⟩ : ∃ q, boundsL V (a : Int) = q := ⟨_, rfl⟩
      have HB0 := Lib.hid (fun wx => refBounds_any V (by omega) (a : Int) wx)
      have hbl0 := bounds_leO V (a : Int)
      rw [hq0] at HB0 hbl0
      obtain ⟨⟨f0, t0⟩, r0⟩ := q0
      dsimp only at hbl0
      have HCU : Hid (∀ (p q : Int), OkT (cutOf S l p q)) := fun p q => okT_cut HFL.out p q
      obtain ⟨ct, hct⟩ : ∃ ct, cutOf S l (f0 : Int) (t0 : Int) = ct := ⟨_, rfl⟩
      have hoc := HCU.out (f0 : Int) (t0 : Int)
      rw [hct] at hoc
      obtain ⟨⟨CS, cl⟩, cn⟩ := ct
      have HL0 : Hid (joList S l V y a 0 = [(CS, cl)]) := by
        show [(cutOf S l ((boundsL V (a : Int)).1.1 : Nat) ((boundsL V (a : Int)).1.2 : Nat)).1] = _
        rw [hq0, hct]
      have HA : Hid (∀ k, joAt S l V y a (k + 1) = f0 + ((pileM (joList S l V y a k)).getD ([], [])).1.length) := fun k => by
        show (boundsL V (a : Int)).1.1 + _ = _
        rw [hq0]
      have HE0 : Hid (joEnd V a 0 = t0) := by
        show (boundsL V (a : Int)).1.2 = _
        rw [hq0]
      have HF0 : Hid ((boundsL V (a : Int)).1.1 = f0) := by show _ = _; rw [hq0]
      have HCT := Lib.hid hct
      have HOC := Lib.hid hoc
      have hf0 : f0 ≤ 4096 := by omega
      have ht0 : t0 ≤ 4096 := by omega
      clear hct hoc hq0 hbl0
      have hbw : Below wb.heap.size wb wb := Below.refl _ _
      go_upto_region 4 with (go_at_call 106; refine (HC.out _).mono ?_; rintro ee w2 ⟨rfl, bb⟩; replace hbw := hbw.trans bb; clear bb)
      go_upto_region 6 with (go_at_call 71; refine (HB0.out _).mono ?_; rintro ee w3 ⟨rfl, bb⟩; replace hbw := hbw.trans (bb.mono hbw.size); clear bb)
      obtain ⟨y0, y1⟩ := txt_cells (TKB.out _ hbw).t5
      go_upto_region 7 with (go_at_call 108; refine (refTCut_any A c _ S l _ _ _ (Nat.le_refl _) (TKB.out _ hbw).tS).mono ?_; rw [HCT.out]; rintro ee w4 ⟨A9, c9, rfl, own9, bb⟩; dsimp only at own9 ⊢; replace hbw := hbw.trans (bb.mono hbw.size); clear bb y0 y1)
      have TT : Txu w4 A9 CS cl := ⟨by have := HOC.out.1; dsimp only at this; unfold maxLen; omega, HOC.out.2.1, HOC.out.2.2, Row.of_own own9⟩
      have TX0 := TxsK.one (wb := wb) ⟨CS, A9, c9, cl⟩ (hbw.trans (((Below.refl _ _).alloc (Nat.le_refl _) (.cells #[.string ⟨CS.toArray⟩, .slice A9 cl.length c9] 32)).mono hbw.size)) (grow_txu TT _ ((Below.refl _ _).alloc (Nat.le_refl _) (.cells #[.string ⟨CS.toArray⟩, .slice A9 cl.length c9] 32)))
      rw [World.size_alloc] at TX0
      have HX0 := Lib.hid TX0
      clear TX0 TT own9 hbw
      obtain ⟨y0, y1⟩ := txt_cells (Blk.new w4 32 #[.string ⟨CS.toArray⟩, .slice A9 cl.length c9])
      go_upto_region 10 with fail
      generalize (w4.alloc (.cells #[.string ⟨CS.toArray⟩, .slice A9 cl.length c9] 32)).alloc (.cells #[.string ⟨CS.toArray⟩, .slice A9 cl.length c9] 32) = w5 at *
      generalize w4.heap.size = g15 at *
      clear y0 y1 HB0 HCT HOC
      obtain ⟨mk, hmk⟩ : ∃ mk, makeOf [32] y = mk := ⟨_, rfl⟩
      have hokm := okT_make [32] y hy
      rw [hmk] at hokm
      obtain ⟨⟨tS, tl⟩, tn⟩ := mk
      have HMK := Lib.hid hmk
      have HOM := Lib.hid hokm
      clear hmk hokm
      go_loopw [13, 17, 18, 19] (fun en v at' i wr => ∃ (k : Nat) (ts : List TextP) (A8 : Option Addr) (c8 : Nat), en = .int .i64 (joEnd V a k : Nat) ∧ v = .slice A8 ts.length c8 ∧ at' = .int .i64 (joAt S l V y a k : Nat) ∧ i = .int .i64 ((a + 1 + k : Nat) : Int) ∧ a + 1 + k ≤ e + 1 ∧ Hid (TxsK wb wr A8 c8 ts) ∧ Hid (ts.map TextP.tp = joList S l V y a k)) (fun _ _ _ i _ => e + 1 - (intOf i).toNat)
      case atStart => exact ⟨0, [⟨CS, A9, c9, cl⟩], some ⟨g15 + 1, 0, none⟩, 1, by rw [HE0.out], rfl, rfl, by go_num, by omega, HX0, by show _ = _; rw [HL0.out]; rfl⟩
      case round =>
        obtain ⟨k, ts, A8, c8, rfl, rfl, rfl, rfl, hk, TX, HM⟩ := hrel
        have hlen := joList_len S l V y a k
        rw [← HM.out, List.length_map] at hlen
        have hlt4 : ts.length ≤ 10000 := by omega
        clear hlen HX0 HL0 HE0
        by_cases hlt : a + 1 + k ≤ e
        · have hle : ((a + 1 + k : Nat) : Int) ≤ (e : Int) := by omega
          have HBn := Lib.hid (fun wx => refBounds_any V (by omega) ((a + 1 + k : Nat) : Int) wx)
          have hbl := bounds_leO V ((a + 1 + k : Nat) : Int)
          have hpc : joList S l V y a (k + 1) = joList S l V y a k ++ joPiece S l V y ((a : Int) + 1 + k) := rfl
          have hen : joEnd V a (k + 1) = (boundsL V ((a : Int) + 1 + k)).1.2 := rfl
          unfold joPiece at hpc
          rw [show (a : Int) + 1 + (k : Int) = ((a + 1 + k : Nat) : Int) by omega] at hpc hen
          generalize boundsL V ((a + 1 + k : Nat) : Int) = bd at *
          obtain ⟨⟨fr, wt⟩, er⟩ := bd
          dsimp only at hpc hbl hen
          rw [HMK.out] at hpc
          dsimp only at hpc
          have HPC := Lib.hid hpc
          have HEN := Lib.hid hen
          obtain ⟨pp, hpp⟩ : ∃ pp, (pileM (ts.map TextP.tp)).getD ([], []) = pp := ⟨_, rfl⟩
          obtain ⟨bl, hbl2⟩ : ∃ bl, (pileM (ts.map TextP.tp)).isSome = bl := ⟨_, rfl⟩
          obtain ⟨XS, xl⟩ := pp
          have hXS : XS.length ≤ 4096 := by have := pile_len (ts.map TextP.tp); rw [hpp] at this; exact this
          have HPI : Hid (∀ wx, TxsK wb wx A8 c8 ts → Calls Tryz.prog 114 #[.slice A8 ts.length c8] wx fun e w' => ∃ A c, e = .returned (.tuple #[.agg #[.string ⟨XS.toArray⟩, .slice A xl.length c], .bool bl]) ∧ w'.ownsRow wx.heap.size 77 2 (.slice A xl.length c) xl.length (flatR xl) ∧ Below wx.heap.size wx w') := fun wx hx => by
            have := refPPiled_any A8 c8 ts (by omega) wx hx.txu (Row.of_own hx.own)
            unfold GivesTB at this
            rw [hpp, hbl2] at this
            exact this
          have HAN : Hid (joAt S l V y a (k + 1) = f0 + XS.length) := by show _ = _; rw [HA.out k, ← HM.out, hpp]
          have hfr : fr ≤ 4096 := by omega
          have hwt : wt ≤ 4096 := by omega
          have HLT := Lib.hid hlt
          have HK4 := Lib.hid hlt4
          clear hpc hen hpp hbl2
          go_upto_region 13 with (go_at_call 71; refine (HBn.out _).mono ?_; rintro ee w2 ⟨rfl, bb⟩; replace TX := Lib.hid (TX.out.step bb); clear bb)
          go_loopw [20] (fun s wr => ∃ x : Nat, s = .int .i64 (x : Nat) ∧ fr ≤ x ∧ x ≤ wt ∧ blankB V wt x = blankB V wt fr ∧ wr = w2) (fun s _ => wt - (intOf s).toNat)
          case atStart => exact ⟨fr, rfl, Nat.le_refl _, by omega, rfl, rfl⟩
          case round =>
            obtain ⟨x, rfl, hx1, hx2, hx3, hw2⟩ := hrel
            subst hw2
            by_cases hxw : x < wt
            · have hxw1 : (x : Int) < (wt : Int) := by omega
              have hin : (x : Int) < (V.length : Int) := by omega
              have hg := byte_at V x (by omega)
              have hget : V.getD x 0 = V[x]'(by omega) := by rw [List.getD_eq_getElem?_getD, List.getElem?_eq_getElem (by omega)]; rfl
              have hgo := Lib.hid (fun h => blankB_go (V := V) hxw h)
              have hno := Lib.hid (fun h => blankB_no (V := V) (t := wt) (x := x) h)
              rw [hget] at hgo hno
              generalize V[x]'(by omega) = cb at *
              by_cases h32 : cb = 32
              · subst h32
                have hgo2 := hgo.out (.inl rfl)
                clear hgo hno
                go_wp2_with fail
                go_roundw
                case rel => exact ⟨x + 1, by go_num, by omega, by omega, by rw [hgo2, hx3], trivial⟩
                case measure => simp [intOf]; omega
              · have hne : ((cb.toNat : Int) == 32) = false := by rw [beq_eq_false_iff_ne]; intro h; exact h32 (UInt8.toNat_inj.1 (by show cb.toNat = 32; omega))
                by_cases h9 : cb = 9
                · subst h9
                  have hgo2 := hgo.out (.inr rfl)
                  clear hgo hno
                  go_wp2_with fail
                  go_roundw
                  case rel => exact ⟨x + 1, by go_num, by omega, by omega, by rw [hgo2, hx3], trivial⟩
                  case measure => simp [intOf]; omega
                · have hne9 : ((cb.toNat : Int) == 9) = false := by rw [beq_eq_false_iff_ne]; intro h; exact h9 (UInt8.toNat_inj.1 (by show cb.toNat = 9; omega))
                  have hnb : ¬ (x < wt ∧ (V.getD x 0 = 32 ∨ V.getD x 0 = 9)) := by
                    rw [hget]
                    rintro ⟨_, h | h⟩
                    · exact h32 h
                    · exact h9 h
                  clear hgo hno
                  have hX : blankB V wt fr = x := hx3.symm.trans (blankB_no hnb)
                  obtain ⟨ct, hct⟩ : ∃ ct, cutOf S l (x : Int) (wt : Int) = ct := ⟨_, rfl⟩
                  have hoc := HCU.out (x : Int) (wt : Int)
                  rw [hct] at hoc
                  obtain ⟨⟨DS, dl⟩, dn⟩ := ct
                  have HCT := Lib.hid hct
                  have HOC := Lib.hid hoc
                  have HP2 : Hid (joList S l V y a (k + 1) = joList S l V y a k ++ [(tS, tl), (DS, dl)]) := by
                    show _ = _
                    rw [HPC.out, hX, if_pos hxw, HCT.out]
                    rfl
                  clear hct hoc HPC hX hx3
                  go_wp2_with (first
                    | (go_at_call 114; refine (HPI.out _ TX.out).mono ?_; rintro ee w4 ⟨A7, c7, rfl, own7, bb⟩; have TX := Lib.hid ((TX.out.step bb).step ((Below.refl _ _).alloc (Nat.le_refl _) (.cells #[.string ⟨XS.toArray⟩, .slice A7 xl.length c7] 32))); clear bb own7; obtain ⟨u0, u1⟩ := txt_cells (Blk.new w4 32 #[.string ⟨XS.toArray⟩, .slice A7 xl.length c7]); obtain ⟨y0, y1⟩ := txt_cells (TKB.out _ TX.out.bel).t5)
                    | (go_at_call 74; refine (refPMade_any [32] (by decide) y hy _).mono ?_; rw [HMK.out]; rintro ee w3 ⟨A6, c6, rfl, own6, bb⟩; dsimp only at own6 ⊢; have HT6 := Lib.hid (TX.out.made (Nat.le_refl _) (S := tS) (by have := HOM.out.1; dsimp only at this; unfold maxLen; omega) HOM.out.2.1 HOM.out.2.2 own6); have TX := Lib.hid (TX.out.step bb); clear bb own6 y0 y1 u0 u1; obtain ⟨y0, y1⟩ := txt_cells (TKB.out _ TX.out.bel).t5)
                    | (at_builtin; refine wpList_pushT rfl (.tmp 107) (.tmp 110) 125 rfl wb.heap.size 32 _ 2 40 elt_textO 32 _ _ _ rfl TX.out.own [.string ⟨tS.toArray⟩, .slice A6 tl.length c6] _ rfl rfl rfl (by simp [Value.oneCell']) (by have := HK4.out; unfold maxLen; omega) (by have := HK4.out; omega) TX.out.bel.size ?_; intro v5 w5 own5 t5 n5; obtain ⟨A8, c8, ts2, hts2, rfl, TX2⟩ := TX.out.push ⟨tS, A6, c6, tl⟩ HT6.out own5 t5 n5; have HS2 := Lib.hid hts2; have HK5 : Hid (ts2.length ≤ 10001) := by {show _ ≤ _; rw [← HS2.out]; simp; exact HK4.out}; have TX := Lib.hid TX2; clear own5 t5 n5 hts2 TX2 y0 y1; obtain ⟨y0, y1⟩ := txt_cells (TKB.out _ TX.out.bel).t5)
                    | (go_at_call 108; refine (refTCut_any A c _ S l _ _ _ (Nat.le_refl _) (TKB.out _ TX.out.bel).tS).mono ?_; rw [HCT.out]; rintro ee w8 ⟨A11, c11, rfl, own9, bb⟩; dsimp only at own9 ⊢; have HT9 := Lib.hid ((TX.out.made (Nat.le_refl _) (S := DS) (by have := HOC.out.1; dsimp only at this; unfold maxLen; omega) HOC.out.2.1 HOC.out.2.2 own9).fresh ((Below.refl _ _).alloc (Nat.le_refl _) (.cells #[.string ⟨DS.toArray⟩, .slice A11 dl.length c11] 32))); have TX := Lib.hid ((TX.out.step bb).step ((Below.refl _ _).alloc (Nat.le_refl _) (.cells #[.string ⟨DS.toArray⟩, .slice A11 dl.length c11] 32))); clear bb own9 y0 y1)
                    | (at_builtin; refine wpList_pushT rfl (.tmp 119) (.tmp 121) 125 rfl wb.heap.size 32 _ 2 40 elt_textO 32 _ _ _ rfl TX.out.own [.string ⟨DS.toArray⟩, .slice A11 dl.length c11] (w8.heap.size + 1) (World.size_alloc _ _).symm rfl rfl (by simp [Value.oneCell']) (by have := HK5.out; unfold maxLen; omega) (by have := HK5.out; omega) TX.out.bel.size ?_; intro v9 w9 own9 t9 n9; obtain ⟨A10, c10, ts3, hts3, rfl, TX3⟩ := TX.out.push ⟨DS, A11, c11, dl⟩ HT9.out own9 t9 n9; have HS3 := Lib.hid hts3; have TX := Lib.hid TX3; clear own9 t9 n9 hts3 TX3))
                  go_roundw
                  case rel => exact ⟨k + 1, ts3, A10, c10, by rw [HEN.out], rfl, by rw [HAN.out]; go_num, by go_num, by have := HLT.out; omega, TX, by show _ = _; rw [HP2.out, ← HM.out, ← HS3.out, ← HS2.out]; simp [TextP.tp]⟩
                  case measure => have := HLT.out; simp [intOf]; omega
            · have hxw1 : ¬ (x : Int) < (wt : Int) := by omega
              have hxw2 : decide (x < wt) = false := decide_eq_false hxw
              have hX : blankB V wt fr = x := hx3.symm.trans (blankB_no (fun h => hxw h.1))
              obtain ⟨ct, hct⟩ : ∃ ct, cutOf S l (x : Int) (wt : Int) = ct := ⟨_, rfl⟩
              have hoc := HCU.out (x : Int) (wt : Int)
              rw [hct] at hoc
              obtain ⟨⟨DS, dl⟩, dn⟩ := ct
              have HCT := Lib.hid hct
              have HOC := Lib.hid hoc
              have HP2 : Hid (joList S l V y a (k + 1) = joList S l V y a k ++ [(DS, dl)]) := by
                show _ = _
                rw [HPC.out, hX, if_neg hxw, HCT.out]
                rfl
              clear hct hoc HPC hX hx3
              go_wp2_with (first
                | (go_at_call 114; refine (HPI.out _ TX.out).mono ?_; rintro ee w4 ⟨A7, c7, rfl, own7, bb⟩; have TX := Lib.hid ((TX.out.step bb).step ((Below.refl _ _).alloc (Nat.le_refl _) (.cells #[.string ⟨XS.toArray⟩, .slice A7 xl.length c7] 32))); clear bb own7; obtain ⟨u0, u1⟩ := txt_cells (Blk.new w4 32 #[.string ⟨XS.toArray⟩, .slice A7 xl.length c7]); obtain ⟨y0, y1⟩ := txt_cells (TKB.out _ TX.out.bel).t5)
                | (go_at_call 108; refine (refTCut_any A c _ S l _ _ _ (Nat.le_refl _) (TKB.out _ TX.out.bel).tS).mono ?_; rw [HCT.out]; rintro ee w8 ⟨A11, c11, rfl, own9, bb⟩; dsimp only at own9 ⊢; have HT9 := Lib.hid ((TX.out.made (Nat.le_refl _) (S := DS) (by have := HOC.out.1; dsimp only at this; unfold maxLen; omega) HOC.out.2.1 HOC.out.2.2 own9).fresh ((Below.refl _ _).alloc (Nat.le_refl _) (.cells #[.string ⟨DS.toArray⟩, .slice A11 dl.length c11] 32))); have TX := Lib.hid ((TX.out.step bb).step ((Below.refl _ _).alloc (Nat.le_refl _) (.cells #[.string ⟨DS.toArray⟩, .slice A11 dl.length c11] 32))); clear bb own9 y0 y1)
                | (at_builtin; refine wpList_pushT rfl (.tmp 119) (.tmp 121) 125 rfl wb.heap.size 32 _ 2 40 elt_textO 32 _ _ _ rfl TX.out.own [.string ⟨DS.toArray⟩, .slice A11 dl.length c11] (w8.heap.size + 1) (World.size_alloc _ _).symm rfl rfl (by simp [Value.oneCell']) (by have := HK4.out; unfold maxLen; omega) (by have := HK4.out; omega) TX.out.bel.size ?_; intro v9 w9 own9 t9 n9; obtain ⟨A10, c10, ts3, hts3, rfl, TX3⟩ := TX.out.push ⟨DS, A11, c11, dl⟩ HT9.out own9 t9 n9; have HS3 := Lib.hid hts3; have TX := Lib.hid TX3; clear own9 t9 n9 hts3 TX3))
              go_roundw
              case rel => exact ⟨k + 1, ts3, A10, c10, by rw [HEN.out], rfl, by rw [HAN.out]; go_num, by go_num, by have := HLT.out; omega, TX, by show _ = _; rw [HP2.out, ← HM.out, ← HS3.out]; simp [TextP.tp]⟩
              case measure => have := HLT.out; simp [intOf]; omega
        · have hle : ¬ ((a + 1 + k : Nat) : Int) ≤ (e : Int) := by omega
          have hv := HV.out
          clear HV
          rw [show e - a = k by omega, ← HM.out, HF0.out] at hv
          obtain ⟨pp, hpp⟩ : ∃ pp, (pileM (ts.map TextP.tp)).getD ([], []) = pp := ⟨_, rfl⟩
          obtain ⟨bl, hbl⟩ : ∃ bl, (pileM (ts.map TextP.tp)).isSome = bl := ⟨_, rfl⟩
          rw [hpp, hbl] at hv
          obtain ⟨XS, xl⟩ := pp
          have HPT := Lib.hid (pile_txt TX.out.txu hpp)
          have HPI : Hid (∀ wx, TxsK wb wx A8 c8 ts → Calls Tryz.prog 114 #[.slice A8 ts.length c8] wx fun e w' => ∃ A c, e = .returned (.tuple #[.agg #[.string ⟨XS.toArray⟩, .slice A xl.length c], .bool bl]) ∧ w'.ownsRow wx.heap.size 77 2 (.slice A xl.length c) xl.length (flatR xl) ∧ Below wx.heap.size wx w') := fun wx hx => by
            have := refPPiled_any A8 c8 ts (by omega) wx hx.txu (Row.of_own hx.own)
            unfold GivesTB at this
            rw [hpp, hbl] at this
            exact this
          generalize joEnd V a k = en at *
          generalize joAt S l V y a k = aa at *
          obtain ⟨tm, htm⟩ : ∃ tm, turnedM S l y (f0 : Nat) (en : Nat) XS xl bl = tm := ⟨_, rfl⟩
          rw [htm] at hv
          have HTM := Lib.hid htm
          have HV := Lib.hid hv
          clear hv htm hpp hbl HM HMK HOM HFL HA HF0
          obtain ⟨⟨⟨ea, ES, el, EX, em⟩, W⟩, n⟩ := tm
          go_upto_region 23 with (go_at_call 114; refine (HPI.out _ TX.out).mono ?_; rintro ee w4 ⟨A9, c9, rfl, own9, bb⟩; replace TX := Lib.hid (TX.out.step bb); clear bb; have HROW := Lib.hid (Row.of_own own9); clear own9)
          have T0 : Hid (TakeK w w4 A A9 c S XS l xl f t b) := by
            have k := TKB.out _ TX.out.bel
            exact ⟨k.t5, k.rg, k.res, k.bel, k.tS, ⟨HPT.out.1, HPT.out.2.1, HPT.out.2.2, HROW.out⟩⟩
          have T := Lib.hid (T0.out.step ((Below.refl _ _).alloc (Nat.le_refl _) (.cells #[.string ⟨XS.toArray⟩, .slice A9 xl.length c9] 32)))
          have V29 := Lib.hid (Blk.new w4 32 #[.string ⟨XS.toArray⟩, .slice A9 xl.length c9])
          clear T0 TX TKB HROW HPT HPI
          generalize hg29 : w4.heap.size = g29 at *
          generalize w4.alloc (.cells #[.string ⟨XS.toArray⟩, .slice A9 xl.length c9] 32) = w5 at *
          clear hg29
          obtain ⟨z0, z1⟩ := txt_cells V29.out
          obtain ⟨y0, y1⟩ := txt_cells T.out.t5
          go_upto_region 24 with (go_at_call 73; refine (refPTurned_any A A9 c c9 S l y hy (f0 : Nat) (en : Nat) XS xl bl _ T.out.tS T.out.tX).mono ?_; rw [HTM.out]; rintro ee w6 ⟨A4, c4, B4, d4, rfl, rA, rB, bb⟩; dsimp only at rA rB ⊢; have T3 := Lib.hid ((T.out.step bb).step ((Below.refl _ _).alloc (Nat.le_refl _) (.cells #[.int .i64 ea, .string ⟨ES.toArray⟩, .slice A4 el.length c4, .string ⟨EX.toArray⟩, .slice B4 em.length d4] 41))); have RA := Lib.hid (row_step rA ((Below.refl _ _).alloc (Nat.le_refl _) (.cells #[.int .i64 ea, .string ⟨ES.toArray⟩, .slice A4 el.length c4, .string ⟨EX.toArray⟩, .slice B4 em.length d4] 41))); have RB := Lib.hid (row_step rB ((Below.refl _ _).alloc (Nat.le_refl _) (.cells #[.int .i64 ea, .string ⟨ES.toArray⟩, .slice A4 el.length c4, .string ⟨EX.toArray⟩, .slice B4 em.length d4] 41))); have V3 := Lib.hid (Blk.new w6 41 #[.int .i64 ea, .string ⟨ES.toArray⟩, .slice A4 el.length c4, .string ⟨EX.toArray⟩, .slice B4 em.length d4]); clear rA rB bb)
          clear y0 y1 z0 z1 T V29
          generalize hg31 : w6.heap.size = g31 at *
          generalize w6.alloc (.cells #[.int .i64 ea, .string ⟨ES.toArray⟩, .slice A4 el.length c4, .string ⟨EX.toArray⟩, .slice B4 em.length d4] 41) = w7 at *
          clear hg31
          obtain ⟨e0', e1, e2, e3, e4⟩ := ed_cells V3.out
          by_cases hn : n = 0
          · subst hn
            have HV2 := Lib.hid ((if_pos rfl).symm.trans HV.out)
            clear HV
            obtain ⟨⟨r0, r1, r2, r3, r4, r5, r6, r7, r8, r9⟩, t0, t1, t2, t3, t4, t5, t6, t7, t8, t9⟩ := out_cells T3.out.res
            go_wp2_with fail
            have EE := out_end (A := A4) (B := B4) (C := none) (l := el) (m := em) (q := []) T3.out.res noLab_out T3.out.bel (by omega) RA.out RB.out (.inl rfl) [(0, .int .i64 ea), (1, .string ⟨ES.toArray⟩), (2, .slice A4 el.length c4), (3, .string ⟨EX.toArray⟩), (4, .slice B4 em.length d4), (5, .string ⟨#[]⟩), (6, .slice none 0 0), (7, .bool false), (8, .bool false), (9, .int .i64 (aa : Nat))]
            have EB : Blk (setMany w7 (w.heap.size + 1 + 1) [(0, .int .i64 ea), (1, .string ⟨ES.toArray⟩), (2, .slice A4 el.length c4), (3, .string ⟨EX.toArray⟩), (4, .slice B4 em.length d4), (5, .string ⟨#[]⟩), (6, .slice none 0 0), (7, .bool false), (8, .bool false), (9, .int .i64 (aa : Nat))]) (w.heap.size + 1 + 1) 47 #[.int .i64 ea, .string ⟨ES.toArray⟩, .slice A4 el.length c4, .string ⟨EX.toArray⟩, .slice B4 em.length d4, .string ⟨#[]⟩, .slice none 0 0, .bool false, .bool false, .int .i64 (aa : Nat)] := out_ten T3.out.res _ _ _ _ _ _ _ _ _ _
            change bodyPost _ _ _ _ _ (setMany w7 (w.heap.size + 1 + 1) [(0, .int .i64 ea), (1, .string ⟨ES.toArray⟩), (2, .slice A4 el.length c4), (3, .string ⟨EX.toArray⟩), (4, .slice B4 em.length d4), (5, .string ⟨#[]⟩), (6, .slice none 0 0), (7, .bool false), (8, .bool false), (9, .int .i64 (aa : Nat))])
            generalize setMany w7 (w.heap.size + 1 + 1) [(0, .int .i64 ea), (1, .string ⟨ES.toArray⟩), (2, .slice A4 el.length c4), (3, .string ⟨EX.toArray⟩), (4, .slice B4 em.length d4), (5, .string ⟨#[]⟩), (6, .slice none 0 0), (7, .bool false), (8, .bool false), (9, .int .i64 (aa : Nat))] = wz at *
            refine ret_out rfl _ _ (w.heap.size + 1 + 1) #[.int .i64 ea, .string ⟨ES.toArray⟩, .slice A4 el.length c4, .string ⟨EX.toArray⟩, .slice B4 em.length d4, .string ⟨#[]⟩, .slice none 0 0, .bool false, .bool false, .int .i64 (aa : Nat)] rfl rfl EB rfl ?_
            rw [← HV2.out]
            exact ⟨A4, c4, B4, d4, none, 0, rfl, EE.1, EE.2.1, EE.2.2.1, EE.2.2.2⟩
          · have HV2 := Lib.hid ((if_neg hn).symm.trans HV.out)
            clear HV
            have hn1 : ((n : Int) == 0) = false := by rw [beq_eq_false_iff_ne]; omega
            have hn2 : ((n : Int) != 0) = true := by rw [bne_iff_ne]; omega
            obtain ⟨⟨r0, r1, r2, r3, r4, r5, r6, r7, r8, r9⟩, t0, t1, t2, t3, t4, t5, t6, t7, t8, t9⟩ := out_cells T3.out.res
            go_wp2_with fail
            have EE := out_end (A := none) (B := none) (C := none) (l := []) (m := []) (q := []) T3.out.res noLab_out T3.out.bel (by omega) (.inl rfl) (.inl rfl) (.inl rfl) [(0, .int .i64 0), (1, .string ⟨#[]⟩), (2, .slice none 0 0), (3, .string ⟨#[]⟩), (4, .slice none 0 0), (5, .string ⟨#[]⟩), (6, .slice none 0 0), (7, .bool false), (8, .bool false), (9, .int .i64 0)]
            have EB : Blk (setMany w7 (w.heap.size + 1 + 1) [(0, .int .i64 0), (1, .string ⟨#[]⟩), (2, .slice none 0 0), (3, .string ⟨#[]⟩), (4, .slice none 0 0), (5, .string ⟨#[]⟩), (6, .slice none 0 0), (7, .bool false), (8, .bool false), (9, .int .i64 0)]) (w.heap.size + 1 + 1) 47 #[.int .i64 0, .string ⟨#[]⟩, .slice none 0 0, .string ⟨#[]⟩, .slice none 0 0, .string ⟨#[]⟩, .slice none 0 0, .bool false, .bool false, .int .i64 0] := out_ten T3.out.res _ _ _ _ _ _ _ _ _ _
            change bodyPost _ _ _ _ _ (setMany w7 (w.heap.size + 1 + 1) [(0, .int .i64 0), (1, .string ⟨#[]⟩), (2, .slice none 0 0), (3, .string ⟨#[]⟩), (4, .slice none 0 0), (5, .string ⟨#[]⟩), (6, .slice none 0 0), (7, .bool false), (8, .bool false), (9, .int .i64 0)])
            generalize setMany w7 (w.heap.size + 1 + 1) [(0, .int .i64 0), (1, .string ⟨#[]⟩), (2, .slice none 0 0), (3, .string ⟨#[]⟩), (4, .slice none 0 0), (5, .string ⟨#[]⟩), (6, .slice none 0 0), (7, .bool false), (8, .bool false), (9, .int .i64 0)] = wz at *
            refine ret_out rfl _ _ (w.heap.size + 1 + 1) #[.int .i64 0, .string ⟨#[]⟩, .slice none 0 0, .string ⟨#[]⟩, .slice none 0 0, .string ⟨#[]⟩, .slice none 0 0, .bool false, .bool false, .int .i64 0] rfl rfl EB rfl ?_
            rw [← HV2.out]
            exact ⟨none, 0, none, 0, none, 0, rfl, EE.1, EE.2.1, EE.2.2.1, EE.2.2.2⟩
end Go.Proofs.YtgpmfkedcoiopaaGreatDoor

/-
  The document's Do: its plain part: layer 14.
-/
namespace Go.Proofs.YtgpmfkedcoiopaaGreatDoor
open Go.RowKit
set_option maxRecDepth 100000

theorem ofL_up (V : List UInt8) {p q : Int} (h : p ≤ q) : ofL V p ≤ ofL V q := by
  unfold ofL
  exact endsTo_mono V (by omega)
/-- a right range, as numbers -/
theorem right_facts {V : List UInt8} {f t : Int} {b : Bool} (h : rightM V f t b = true) (hV : V.length ≤ 4096) :
    0 ≤ f ∧ f ≤ t ∧ t ≤ 1000000 ∧
    (∃ F E : Nat, bytesM V f t b = ((F : Int), (E : Int)) ∧ F ≤ E ∧ E ≤ V.length) ∧
    (∃ a e : Nat, linesP V f t b = ((a : Int), (e : Int)) ∧ a ≤ e ∧ e < countL V) := by
  have hcl := countL_le V
  unfold rightM at h
  cases b with
  | true =>
    rw [if_pos rfl] at h
    have h := of_decide_eq_true h
    obtain ⟨i, rfl⟩ : ∃ i : Nat, f = i := ⟨f.toNat, by omega⟩
    obtain ⟨j, rfl⟩ : ∃ j : Nat, t = j := ⟨t.toNat, by omega⟩
    have hj : j < countL V := by omega
    have hi : i < countL V := by omega
    refine ⟨by omega, by omega, by omega, ⟨begL V i, endL V j, ?_, ?_, end_le hj⟩, i, j, rfl, by omega, hj⟩
    · unfold bytesM
      rw [if_pos rfl, boundsL_nat hi, boundsL_nat hj]
    · exact Nat.le_trans (beg_mono (by omega) hj) (beg_end hj)
  | false =>
    rw [if_neg (by decide)] at h
    have h := of_decide_eq_true h
    refine ⟨by omega, by omega, by omega, ⟨f.toNat, t.toNat, ?_, by omega, by omega⟩, ofL V f, ofL V (max f (t - 1)), rfl, ofL_up V (by omega), ofL_le V _⟩
    unfold bytesM
    rw [if_neg (by decide)]
    exact Prod.ext (by show f = _; omega) (by show t = _; omega)
/-- Do -/
def doM (S : List UInt8) (l : List RunP) (y : Nat) (op f t : Int) (b : Bool) : OutP × Nat :=
  let V := (viewOf S l y).1
  if (viewOf S l y).2 ≠ 0 ∨ rightM V f t b = false then (out0, 2)
  else if op = 100 ∨ op = 121 ∨ op = 99 then takenM S l V y op f t b
  else if op = 62 ∨ op = 60 then shiftedM S l V y op f t b
  else if op = 126 then toggledM S l V y f t b
  else if op = 74 then joinedM S l V y f t b
  else (out0, 2)
theorem view_same {S : List UInt8} {l : List RunP} {y : Nat} (h : (viewOf S l y).2 = 0) : S.length = (viewOf S l y).1.length := by
  unfold viewOf at *
  split at h
  · next hg => rw [if_pos hg]; exact (viewTo_len (goodT_size hg).2.2).symm
  · exact absurd h (by decide)
end Go.Proofs.YtgpmfkedcoiopaaGreatDoor

/-
  The document's Do: layer 14.
-/
namespace Go.Proofs.YtgpmfkedcoiopaaGreatDoor
open Go.RowKit
set_option maxRecDepth 100000
set_option maxHeartbeats 16000000 in
theorem refPDo_any (A : Option Addr) (c : Nat) (S : List UInt8) (l : List RunP) (y : Nat) (hy : y < 18446744073709551616) (op f t : Int) (b : Bool) (w : World) (h : Txu w A S l) :
    Calls Tryz.prog 17 #[.agg #[.string ⟨S.toArray⟩, .slice A l.length c], .int .u64 (y : Nat), .int .i64 op, .agg #[.int .i64 f, .int .i64 t, .bool b]] w (GivesO w (doM S l y op f t b)) := by
  obtain ⟨v, hv⟩ : ∃ v, doM S l y op f t b = v := ⟨_, rfl⟩
  rw [hv]
  unfold doM at hv
  have hvs := view_same (S := S) (l := l) (y := y)
  have hvl := view_len S l y
  have HVW := Lib.hid (fun wx hx => refTView_any A c wx.heap.size S l y hy wx (Nat.le_refl _) hx)
  obtain ⟨vw, hvw⟩ : ∃ vw, viewOf S l y = vw := ⟨_, rfl⟩
  rw [hvw] at hv hvs hvl HVW
  obtain ⟨V, n⟩ := vw
  dsimp only at hv hvs hvl HVW
  have HV := Lib.hid hv
  have HRG := Lib.hid (fun wx => refPRight_any V (by omega) f t b wx)
  clear hv hvw
  have BX := Lib.hid (boxesE3 w 32 27 47 #[.string ⟨S.toArray⟩, .slice A l.length c] #[.int .i64 f, .int .i64 t, .bool b] #[.int .i64 0, .string ⟨#[]⟩, .slice none 0 0, .string ⟨#[]⟩, .slice none 0 0, .string ⟨#[]⟩, .slice none 0 0, .bool false, .bool false, .int .i64 0])
  have K := Lib.hid (BX.out.and ((grow_txu h).step BX.out.now.2.2.2))
  clear h BX
  go_enter Tryz.func17, Tryz.ntmps17
  go_upto_region 1 with fail
  generalize ((w.alloc (.cells #[.string ⟨S.toArray⟩, .slice A l.length c] 32)).alloc (.cells #[.int .i64 f, .int .i64 t, .bool b] 27)).alloc (.cells #[.int .i64 0, .string ⟨#[]⟩, .slice none 0 0, .string ⟨#[]⟩, .slice none 0 0, .string ⟨#[]⟩, .slice none 0 0, .bool false, .bool false, .int .i64 0] 47) = wx at *
  have T : Hid (TakeK w wx A none c S [] l [] f t b) := by
    have k := K.out.now
    exact ⟨k.1.1, k.1.2.1, k.1.2.2.1, k.1.2.2.2, k.2, txu_nil⟩
  clear K
  obtain ⟨y0, y1⟩ := txt_cells T.out.t5
  go_upto_region 2 with (go_at_call 31; refine (HVW.out _ T.out.tS).mono ?_; rintro ee w2 ⟨rfl, bb⟩; replace T := Lib.hid (T.out.step bb); clear bb y0 y1)
  obtain ⟨⟨z0, z1, z2, _⟩, _⟩ := rng_var T.out.rg
  by_cases hn : n = 0
  · subst hn
    by_cases hrm : rightM V f t b = true
    · obtain ⟨q1, q2, q3, ⟨F, E, q4, q5, q6⟩, a, e, q7, q8, q9⟩ := right_facts hrm hvl
      rw [hrm] at HRG
      have hsv := hvs rfl
      obtain ⟨⟨⟨⟨ea, ES, el, EX, em⟩, RS, rl, bl, bw, ra⟩, rn⟩, hvv⟩ : ∃ u, u = v := ⟨v, rfl⟩
      subst hvv
      replace HV := Lib.hid ((if_neg (show ¬ ((0 : Nat) ≠ 0 ∨ rightM V f t b = false) by rw [hrm]; decide)).symm.trans HV.out)
      go_upto_region 4 with (go_at_call 56; refine (HRG.out _).mono ?_; rintro ee w4 ⟨rfl, bb⟩; replace T := Lib.hid (T.out.step bb); clear bb z0 z1 z2)
      obtain ⟨⟨z0, z1, z2, _⟩, _⟩ := rng_var T.out.rg
      obtain ⟨y0, y1⟩ := txt_cells T.out.t5
      by_cases h100 : op = 100
      · subst h100
        have hr : takenM S l V y 100 f t b = (⟨⟨ea, ES, el, EX, em⟩, RS, rl, bl, bw, ra⟩, rn) := by simpa using HV.out
        have HR := Lib.hid hr
        clear hr
        have HCC : Hid (∀ wx, Txu wx A S l → Calls Tryz.prog 57 #[.agg #[.string ⟨S.toArray⟩, .slice A l.length c], .string ⟨V.toArray⟩, .int .u64 (y : Nat), .int .i64 100, .agg #[.int .i64 f, .int .i64 t, .bool b]] wx (GivesO wx (takenM S l V y 100 f t b))) := fun wx hx => refPTaken_any A c S l V y hy 100 f t b F E q4 q5 q6 hvl wx hx
        rw [HR.out] at HCC
        go_wp2_with (go_at_call 57; refine (HCC.out _ T.out.tS).mono ?_; rintro ee w5 ⟨A4, c4, B4, d4, C4, g4, rfl, rA, rB, rC, bb⟩; dsimp only at rA rB rC ⊢; have RA := Lib.hid rA; have RB := Lib.hid rB; have RC := Lib.hid rC; have T5 := Lib.hid (T.out.step bb); clear rA rB rC bb y0 y1 z0 z1 z2; obtain ⟨⟨r0, r1, r2, r3, r4, r5, r6, r7, r8, r9⟩, t0, t1, t2, t3, t4, t5, t6, t7, t8, t9⟩ := out_cells T5.out.res)
        have EE := out_end (A := A4) (B := B4) (C := C4) (l := el) (m := em) (q := rl) T5.out.res noLab_out T5.out.bel (by omega) RA.out RB.out RC.out [(0, .int .i64 ea), (1, .string ⟨ES.toArray⟩), (2, .slice A4 el.length c4), (3, .string ⟨EX.toArray⟩), (4, .slice B4 em.length d4), (5, .string ⟨RS.toArray⟩), (6, .slice C4 rl.length g4), (7, .bool bl), (8, .bool bw), (9, .int .i64 ra)]
        have EB : Blk (setMany w5 (w.heap.size + 1 + 1) [(0, .int .i64 ea), (1, .string ⟨ES.toArray⟩), (2, .slice A4 el.length c4), (3, .string ⟨EX.toArray⟩), (4, .slice B4 em.length d4), (5, .string ⟨RS.toArray⟩), (6, .slice C4 rl.length g4), (7, .bool bl), (8, .bool bw), (9, .int .i64 ra)]) (w.heap.size + 1 + 1) 47 #[.int .i64 ea, .string ⟨ES.toArray⟩, .slice A4 el.length c4, .string ⟨EX.toArray⟩, .slice B4 em.length d4, .string ⟨RS.toArray⟩, .slice C4 rl.length g4, .bool bl, .bool bw, .int .i64 ra] := out_ten T5.out.res _ _ _ _ _ _ _ _ _ _
        change bodyPost _ _ _ _ _ (setMany w5 (w.heap.size + 1 + 1) [(0, .int .i64 ea), (1, .string ⟨ES.toArray⟩), (2, .slice A4 el.length c4), (3, .string ⟨EX.toArray⟩), (4, .slice B4 em.length d4), (5, .string ⟨RS.toArray⟩), (6, .slice C4 rl.length g4), (7, .bool bl), (8, .bool bw), (9, .int .i64 ra)])
        generalize setMany w5 (w.heap.size + 1 + 1) [(0, .int .i64 ea), (1, .string ⟨ES.toArray⟩), (2, .slice A4 el.length c4), (3, .string ⟨EX.toArray⟩), (4, .slice B4 em.length d4), (5, .string ⟨RS.toArray⟩), (6, .slice C4 rl.length g4), (7, .bool bl), (8, .bool bw), (9, .int .i64 ra)] = wz at *
        refine ret_out rfl _ _ (w.heap.size + 1 + 1) #[.int .i64 ea, .string ⟨ES.toArray⟩, .slice A4 el.length c4, .string ⟨EX.toArray⟩, .slice B4 em.length d4, .string ⟨RS.toArray⟩, .slice C4 rl.length g4, .bool bl, .bool bw, .int .i64 ra] rfl rfl EB rfl ?_
        exact ⟨A4, c4, B4, d4, C4, g4, rfl, EE.1, EE.2.1, EE.2.2.1, EE.2.2.2⟩
      have g100 : (op == 100) = false := by rw [beq_eq_false_iff_ne]; exact h100
      by_cases h121 : op = 121
      · subst h121
        have hr : takenM S l V y 121 f t b = (⟨⟨ea, ES, el, EX, em⟩, RS, rl, bl, bw, ra⟩, rn) := by simpa using HV.out
        have HR := Lib.hid hr
        clear hr
        have HCC : Hid (∀ wx, Txu wx A S l → Calls Tryz.prog 57 #[.agg #[.string ⟨S.toArray⟩, .slice A l.length c], .string ⟨V.toArray⟩, .int .u64 (y : Nat), .int .i64 121, .agg #[.int .i64 f, .int .i64 t, .bool b]] wx (GivesO wx (takenM S l V y 121 f t b))) := fun wx hx => refPTaken_any A c S l V y hy 121 f t b F E q4 q5 q6 hvl wx hx
        rw [HR.out] at HCC
        go_wp2_with (go_at_call 57; refine (HCC.out _ T.out.tS).mono ?_; rintro ee w5 ⟨A4, c4, B4, d4, C4, g4, rfl, rA, rB, rC, bb⟩; dsimp only at rA rB rC ⊢; have RA := Lib.hid rA; have RB := Lib.hid rB; have RC := Lib.hid rC; have T5 := Lib.hid (T.out.step bb); clear rA rB rC bb y0 y1 z0 z1 z2; obtain ⟨⟨r0, r1, r2, r3, r4, r5, r6, r7, r8, r9⟩, t0, t1, t2, t3, t4, t5, t6, t7, t8, t9⟩ := out_cells T5.out.res)
        have EE := out_end (A := A4) (B := B4) (C := C4) (l := el) (m := em) (q := rl) T5.out.res noLab_out T5.out.bel (by omega) RA.out RB.out RC.out [(0, .int .i64 ea), (1, .string ⟨ES.toArray⟩), (2, .slice A4 el.length c4), (3, .string ⟨EX.toArray⟩), (4, .slice B4 em.length d4), (5, .string ⟨RS.toArray⟩), (6, .slice C4 rl.length g4), (7, .bool bl), (8, .bool bw), (9, .int .i64 ra)]
        have EB : Blk (setMany w5 (w.heap.size + 1 + 1) [(0, .int .i64 ea), (1, .string ⟨ES.toArray⟩), (2, .slice A4 el.length c4), (3, .string ⟨EX.toArray⟩), (4, .slice B4 em.length d4), (5, .string ⟨RS.toArray⟩), (6, .slice C4 rl.length g4), (7, .bool bl), (8, .bool bw), (9, .int .i64 ra)]) (w.heap.size + 1 + 1) 47 #[.int .i64 ea, .string ⟨ES.toArray⟩, .slice A4 el.length c4, .string ⟨EX.toArray⟩, .slice B4 em.length d4, .string ⟨RS.toArray⟩, .slice C4 rl.length g4, .bool bl, .bool bw, .int .i64 ra] := out_ten T5.out.res _ _ _ _ _ _ _ _ _ _
        change bodyPost _ _ _ _ _ (setMany w5 (w.heap.size + 1 + 1) [(0, .int .i64 ea), (1, .string ⟨ES.toArray⟩), (2, .slice A4 el.length c4), (3, .string ⟨EX.toArray⟩), (4, .slice B4 em.length d4), (5, .string ⟨RS.toArray⟩), (6, .slice C4 rl.length g4), (7, .bool bl), (8, .bool bw), (9, .int .i64 ra)])
        generalize setMany w5 (w.heap.size + 1 + 1) [(0, .int .i64 ea), (1, .string ⟨ES.toArray⟩), (2, .slice A4 el.length c4), (3, .string ⟨EX.toArray⟩), (4, .slice B4 em.length d4), (5, .string ⟨RS.toArray⟩), (6, .slice C4 rl.length g4), (7, .bool bl), (8, .bool bw), (9, .int .i64 ra)] = wz at *
        refine ret_out rfl _ _ (w.heap.size + 1 + 1) #[.int .i64 ea, .string ⟨ES.toArray⟩, .slice A4 el.length c4, .string ⟨EX.toArray⟩, .slice B4 em.length d4, .string ⟨RS.toArray⟩, .slice C4 rl.length g4, .bool bl, .bool bw, .int .i64 ra] rfl rfl EB rfl ?_
        exact ⟨A4, c4, B4, d4, C4, g4, rfl, EE.1, EE.2.1, EE.2.2.1, EE.2.2.2⟩
      have g121 : (op == 121) = false := by rw [beq_eq_false_iff_ne]; exact h121
      by_cases h99 : op = 99
      · subst h99
        have hr : takenM S l V y 99 f t b = (⟨⟨ea, ES, el, EX, em⟩, RS, rl, bl, bw, ra⟩, rn) := by simpa using HV.out
        have HR := Lib.hid hr
        clear hr
        have HCC : Hid (∀ wx, Txu wx A S l → Calls Tryz.prog 57 #[.agg #[.string ⟨S.toArray⟩, .slice A l.length c], .string ⟨V.toArray⟩, .int .u64 (y : Nat), .int .i64 99, .agg #[.int .i64 f, .int .i64 t, .bool b]] wx (GivesO wx (takenM S l V y 99 f t b))) := fun wx hx => refPTaken_any A c S l V y hy 99 f t b F E q4 q5 q6 hvl wx hx
        rw [HR.out] at HCC
        go_wp2_with (go_at_call 57; refine (HCC.out _ T.out.tS).mono ?_; rintro ee w5 ⟨A4, c4, B4, d4, C4, g4, rfl, rA, rB, rC, bb⟩; dsimp only at rA rB rC ⊢; have RA := Lib.hid rA; have RB := Lib.hid rB; have RC := Lib.hid rC; have T5 := Lib.hid (T.out.step bb); clear rA rB rC bb y0 y1 z0 z1 z2; obtain ⟨⟨r0, r1, r2, r3, r4, r5, r6, r7, r8, r9⟩, t0, t1, t2, t3, t4, t5, t6, t7, t8, t9⟩ := out_cells T5.out.res)
        have EE := out_end (A := A4) (B := B4) (C := C4) (l := el) (m := em) (q := rl) T5.out.res noLab_out T5.out.bel (by omega) RA.out RB.out RC.out [(0, .int .i64 ea), (1, .string ⟨ES.toArray⟩), (2, .slice A4 el.length c4), (3, .string ⟨EX.toArray⟩), (4, .slice B4 em.length d4), (5, .string ⟨RS.toArray⟩), (6, .slice C4 rl.length g4), (7, .bool bl), (8, .bool bw), (9, .int .i64 ra)]
        have EB : Blk (setMany w5 (w.heap.size + 1 + 1) [(0, .int .i64 ea), (1, .string ⟨ES.toArray⟩), (2, .slice A4 el.length c4), (3, .string ⟨EX.toArray⟩), (4, .slice B4 em.length d4), (5, .string ⟨RS.toArray⟩), (6, .slice C4 rl.length g4), (7, .bool bl), (8, .bool bw), (9, .int .i64 ra)]) (w.heap.size + 1 + 1) 47 #[.int .i64 ea, .string ⟨ES.toArray⟩, .slice A4 el.length c4, .string ⟨EX.toArray⟩, .slice B4 em.length d4, .string ⟨RS.toArray⟩, .slice C4 rl.length g4, .bool bl, .bool bw, .int .i64 ra] := out_ten T5.out.res _ _ _ _ _ _ _ _ _ _
        change bodyPost _ _ _ _ _ (setMany w5 (w.heap.size + 1 + 1) [(0, .int .i64 ea), (1, .string ⟨ES.toArray⟩), (2, .slice A4 el.length c4), (3, .string ⟨EX.toArray⟩), (4, .slice B4 em.length d4), (5, .string ⟨RS.toArray⟩), (6, .slice C4 rl.length g4), (7, .bool bl), (8, .bool bw), (9, .int .i64 ra)])
        generalize setMany w5 (w.heap.size + 1 + 1) [(0, .int .i64 ea), (1, .string ⟨ES.toArray⟩), (2, .slice A4 el.length c4), (3, .string ⟨EX.toArray⟩), (4, .slice B4 em.length d4), (5, .string ⟨RS.toArray⟩), (6, .slice C4 rl.length g4), (7, .bool bl), (8, .bool bw), (9, .int .i64 ra)] = wz at *
        refine ret_out rfl _ _ (w.heap.size + 1 + 1) #[.int .i64 ea, .string ⟨ES.toArray⟩, .slice A4 el.length c4, .string ⟨EX.toArray⟩, .slice B4 em.length d4, .string ⟨RS.toArray⟩, .slice C4 rl.length g4, .bool bl, .bool bw, .int .i64 ra] rfl rfl EB rfl ?_
        exact ⟨A4, c4, B4, d4, C4, g4, rfl, EE.1, EE.2.1, EE.2.2.1, EE.2.2.2⟩
      have g99 : (op == 99) = false := by rw [beq_eq_false_iff_ne]; exact h99
      by_cases h62 : op = 62
      · subst h62
        have hr : shiftedM S l V y 62 f t b = (⟨⟨ea, ES, el, EX, em⟩, RS, rl, bl, bw, ra⟩, rn) := by simpa using HV.out
        have HR := Lib.hid hr
        clear hr
        have HCC : Hid (∀ wx, Txu wx A S l → Calls Tryz.prog 58 #[.agg #[.string ⟨S.toArray⟩, .slice A l.length c], .string ⟨V.toArray⟩, .int .u64 (y : Nat), .int .i64 62, .agg #[.int .i64 f, .int .i64 t, .bool b]] wx (GivesO wx (shiftedM S l V y 62 f t b))) := fun wx hx => refPShifted_any A c S l V y hy 62 f t (by omega) b q1 q2 q3 a e q7 q8 q9 hvl wx hx
        rw [HR.out] at HCC
        go_wp2_with (go_at_call 58; refine (HCC.out _ T.out.tS).mono ?_; rintro ee w5 ⟨A4, c4, B4, d4, C4, g4, rfl, rA, rB, rC, bb⟩; dsimp only at rA rB rC ⊢; have RA := Lib.hid rA; have RB := Lib.hid rB; have RC := Lib.hid rC; have T5 := Lib.hid (T.out.step bb); clear rA rB rC bb y0 y1 z0 z1 z2; obtain ⟨⟨r0, r1, r2, r3, r4, r5, r6, r7, r8, r9⟩, t0, t1, t2, t3, t4, t5, t6, t7, t8, t9⟩ := out_cells T5.out.res)
        have EE := out_end (A := A4) (B := B4) (C := C4) (l := el) (m := em) (q := rl) T5.out.res noLab_out T5.out.bel (by omega) RA.out RB.out RC.out [(0, .int .i64 ea), (1, .string ⟨ES.toArray⟩), (2, .slice A4 el.length c4), (3, .string ⟨EX.toArray⟩), (4, .slice B4 em.length d4), (5, .string ⟨RS.toArray⟩), (6, .slice C4 rl.length g4), (7, .bool bl), (8, .bool bw), (9, .int .i64 ra)]
        have EB : Blk (setMany w5 (w.heap.size + 1 + 1) [(0, .int .i64 ea), (1, .string ⟨ES.toArray⟩), (2, .slice A4 el.length c4), (3, .string ⟨EX.toArray⟩), (4, .slice B4 em.length d4), (5, .string ⟨RS.toArray⟩), (6, .slice C4 rl.length g4), (7, .bool bl), (8, .bool bw), (9, .int .i64 ra)]) (w.heap.size + 1 + 1) 47 #[.int .i64 ea, .string ⟨ES.toArray⟩, .slice A4 el.length c4, .string ⟨EX.toArray⟩, .slice B4 em.length d4, .string ⟨RS.toArray⟩, .slice C4 rl.length g4, .bool bl, .bool bw, .int .i64 ra] := out_ten T5.out.res _ _ _ _ _ _ _ _ _ _
        change bodyPost _ _ _ _ _ (setMany w5 (w.heap.size + 1 + 1) [(0, .int .i64 ea), (1, .string ⟨ES.toArray⟩), (2, .slice A4 el.length c4), (3, .string ⟨EX.toArray⟩), (4, .slice B4 em.length d4), (5, .string ⟨RS.toArray⟩), (6, .slice C4 rl.length g4), (7, .bool bl), (8, .bool bw), (9, .int .i64 ra)])
        generalize setMany w5 (w.heap.size + 1 + 1) [(0, .int .i64 ea), (1, .string ⟨ES.toArray⟩), (2, .slice A4 el.length c4), (3, .string ⟨EX.toArray⟩), (4, .slice B4 em.length d4), (5, .string ⟨RS.toArray⟩), (6, .slice C4 rl.length g4), (7, .bool bl), (8, .bool bw), (9, .int .i64 ra)] = wz at *
        refine ret_out rfl _ _ (w.heap.size + 1 + 1) #[.int .i64 ea, .string ⟨ES.toArray⟩, .slice A4 el.length c4, .string ⟨EX.toArray⟩, .slice B4 em.length d4, .string ⟨RS.toArray⟩, .slice C4 rl.length g4, .bool bl, .bool bw, .int .i64 ra] rfl rfl EB rfl ?_
        exact ⟨A4, c4, B4, d4, C4, g4, rfl, EE.1, EE.2.1, EE.2.2.1, EE.2.2.2⟩
      have g62 : (op == 62) = false := by rw [beq_eq_false_iff_ne]; exact h62
      by_cases h60 : op = 60
      · subst h60
        have hr : shiftedM S l V y 60 f t b = (⟨⟨ea, ES, el, EX, em⟩, RS, rl, bl, bw, ra⟩, rn) := by simpa using HV.out
        have HR := Lib.hid hr
        clear hr
        have HCC : Hid (∀ wx, Txu wx A S l → Calls Tryz.prog 58 #[.agg #[.string ⟨S.toArray⟩, .slice A l.length c], .string ⟨V.toArray⟩, .int .u64 (y : Nat), .int .i64 60, .agg #[.int .i64 f, .int .i64 t, .bool b]] wx (GivesO wx (shiftedM S l V y 60 f t b))) := fun wx hx => refPShifted_any A c S l V y hy 60 f t (by omega) b q1 q2 q3 a e q7 q8 q9 hvl wx hx
        rw [HR.out] at HCC
        go_wp2_with (go_at_call 58; refine (HCC.out _ T.out.tS).mono ?_; rintro ee w5 ⟨A4, c4, B4, d4, C4, g4, rfl, rA, rB, rC, bb⟩; dsimp only at rA rB rC ⊢; have RA := Lib.hid rA; have RB := Lib.hid rB; have RC := Lib.hid rC; have T5 := Lib.hid (T.out.step bb); clear rA rB rC bb y0 y1 z0 z1 z2; obtain ⟨⟨r0, r1, r2, r3, r4, r5, r6, r7, r8, r9⟩, t0, t1, t2, t3, t4, t5, t6, t7, t8, t9⟩ := out_cells T5.out.res)
        have EE := out_end (A := A4) (B := B4) (C := C4) (l := el) (m := em) (q := rl) T5.out.res noLab_out T5.out.bel (by omega) RA.out RB.out RC.out [(0, .int .i64 ea), (1, .string ⟨ES.toArray⟩), (2, .slice A4 el.length c4), (3, .string ⟨EX.toArray⟩), (4, .slice B4 em.length d4), (5, .string ⟨RS.toArray⟩), (6, .slice C4 rl.length g4), (7, .bool bl), (8, .bool bw), (9, .int .i64 ra)]
        have EB : Blk (setMany w5 (w.heap.size + 1 + 1) [(0, .int .i64 ea), (1, .string ⟨ES.toArray⟩), (2, .slice A4 el.length c4), (3, .string ⟨EX.toArray⟩), (4, .slice B4 em.length d4), (5, .string ⟨RS.toArray⟩), (6, .slice C4 rl.length g4), (7, .bool bl), (8, .bool bw), (9, .int .i64 ra)]) (w.heap.size + 1 + 1) 47 #[.int .i64 ea, .string ⟨ES.toArray⟩, .slice A4 el.length c4, .string ⟨EX.toArray⟩, .slice B4 em.length d4, .string ⟨RS.toArray⟩, .slice C4 rl.length g4, .bool bl, .bool bw, .int .i64 ra] := out_ten T5.out.res _ _ _ _ _ _ _ _ _ _
        change bodyPost _ _ _ _ _ (setMany w5 (w.heap.size + 1 + 1) [(0, .int .i64 ea), (1, .string ⟨ES.toArray⟩), (2, .slice A4 el.length c4), (3, .string ⟨EX.toArray⟩), (4, .slice B4 em.length d4), (5, .string ⟨RS.toArray⟩), (6, .slice C4 rl.length g4), (7, .bool bl), (8, .bool bw), (9, .int .i64 ra)])
        generalize setMany w5 (w.heap.size + 1 + 1) [(0, .int .i64 ea), (1, .string ⟨ES.toArray⟩), (2, .slice A4 el.length c4), (3, .string ⟨EX.toArray⟩), (4, .slice B4 em.length d4), (5, .string ⟨RS.toArray⟩), (6, .slice C4 rl.length g4), (7, .bool bl), (8, .bool bw), (9, .int .i64 ra)] = wz at *
        refine ret_out rfl _ _ (w.heap.size + 1 + 1) #[.int .i64 ea, .string ⟨ES.toArray⟩, .slice A4 el.length c4, .string ⟨EX.toArray⟩, .slice B4 em.length d4, .string ⟨RS.toArray⟩, .slice C4 rl.length g4, .bool bl, .bool bw, .int .i64 ra] rfl rfl EB rfl ?_
        exact ⟨A4, c4, B4, d4, C4, g4, rfl, EE.1, EE.2.1, EE.2.2.1, EE.2.2.2⟩
      have g60 : (op == 60) = false := by rw [beq_eq_false_iff_ne]; exact h60
      by_cases h126 : op = 126
      · subst h126
        have hr : toggledM S l V y f t b = (⟨⟨ea, ES, el, EX, em⟩, RS, rl, bl, bw, ra⟩, rn) := by simpa using HV.out
        have HR := Lib.hid hr
        clear hr
        have HCC : Hid (∀ wx, Txu wx A S l → Calls Tryz.prog 59 #[.agg #[.string ⟨S.toArray⟩, .slice A l.length c], .string ⟨V.toArray⟩, .int .u64 (y : Nat), .agg #[.int .i64 f, .int .i64 t, .bool b]] wx (GivesO wx (toggledM S l V y f t b))) := fun wx hx => refPToggled_any A c S l V y hy f t b F E q4 q5 q6 hvl hsv wx hx
        rw [HR.out] at HCC
        go_wp2_with (go_at_call 59; refine (HCC.out _ T.out.tS).mono ?_; rintro ee w5 ⟨A4, c4, B4, d4, C4, g4, rfl, rA, rB, rC, bb⟩; dsimp only at rA rB rC ⊢; have RA := Lib.hid rA; have RB := Lib.hid rB; have RC := Lib.hid rC; have T5 := Lib.hid (T.out.step bb); clear rA rB rC bb y0 y1 z0 z1 z2; obtain ⟨⟨r0, r1, r2, r3, r4, r5, r6, r7, r8, r9⟩, t0, t1, t2, t3, t4, t5, t6, t7, t8, t9⟩ := out_cells T5.out.res)
        have EE := out_end (A := A4) (B := B4) (C := C4) (l := el) (m := em) (q := rl) T5.out.res noLab_out T5.out.bel (by omega) RA.out RB.out RC.out [(0, .int .i64 ea), (1, .string ⟨ES.toArray⟩), (2, .slice A4 el.length c4), (3, .string ⟨EX.toArray⟩), (4, .slice B4 em.length d4), (5, .string ⟨RS.toArray⟩), (6, .slice C4 rl.length g4), (7, .bool bl), (8, .bool bw), (9, .int .i64 ra)]
        have EB : Blk (setMany w5 (w.heap.size + 1 + 1) [(0, .int .i64 ea), (1, .string ⟨ES.toArray⟩), (2, .slice A4 el.length c4), (3, .string ⟨EX.toArray⟩), (4, .slice B4 em.length d4), (5, .string ⟨RS.toArray⟩), (6, .slice C4 rl.length g4), (7, .bool bl), (8, .bool bw), (9, .int .i64 ra)]) (w.heap.size + 1 + 1) 47 #[.int .i64 ea, .string ⟨ES.toArray⟩, .slice A4 el.length c4, .string ⟨EX.toArray⟩, .slice B4 em.length d4, .string ⟨RS.toArray⟩, .slice C4 rl.length g4, .bool bl, .bool bw, .int .i64 ra] := out_ten T5.out.res _ _ _ _ _ _ _ _ _ _
        change bodyPost _ _ _ _ _ (setMany w5 (w.heap.size + 1 + 1) [(0, .int .i64 ea), (1, .string ⟨ES.toArray⟩), (2, .slice A4 el.length c4), (3, .string ⟨EX.toArray⟩), (4, .slice B4 em.length d4), (5, .string ⟨RS.toArray⟩), (6, .slice C4 rl.length g4), (7, .bool bl), (8, .bool bw), (9, .int .i64 ra)])
        generalize setMany w5 (w.heap.size + 1 + 1) [(0, .int .i64 ea), (1, .string ⟨ES.toArray⟩), (2, .slice A4 el.length c4), (3, .string ⟨EX.toArray⟩), (4, .slice B4 em.length d4), (5, .string ⟨RS.toArray⟩), (6, .slice C4 rl.length g4), (7, .bool bl), (8, .bool bw), (9, .int .i64 ra)] = wz at *
        refine ret_out rfl _ _ (w.heap.size + 1 + 1) #[.int .i64 ea, .string ⟨ES.toArray⟩, .slice A4 el.length c4, .string ⟨EX.toArray⟩, .slice B4 em.length d4, .string ⟨RS.toArray⟩, .slice C4 rl.length g4, .bool bl, .bool bw, .int .i64 ra] rfl rfl EB rfl ?_
        exact ⟨A4, c4, B4, d4, C4, g4, rfl, EE.1, EE.2.1, EE.2.2.1, EE.2.2.2⟩
      have g126 : (op == 126) = false := by rw [beq_eq_false_iff_ne]; exact h126
      by_cases h74 : op = 74
      · subst h74
        have hr : joinedM S l V y f t b = (⟨⟨ea, ES, el, EX, em⟩, RS, rl, bl, bw, ra⟩, rn) := by simpa using HV.out
        have HR := Lib.hid hr
        clear hr
        have HCC : Hid (∀ wx, Txu wx A S l → Calls Tryz.prog 60 #[.agg #[.string ⟨S.toArray⟩, .slice A l.length c], .string ⟨V.toArray⟩, .int .u64 (y : Nat), .agg #[.int .i64 f, .int .i64 t, .bool b]] wx (GivesO wx (joinedM S l V y f t b))) := fun wx hx => refPJoined_any A c S l V y hy f t b q1 q2 q3 a e (max e (a + 1)) q7 (by have := countL_le V; omega) (by have := countL_le V; omega) rfl hvl wx hx
        rw [HR.out] at HCC
        go_wp2_with (go_at_call 60; refine (HCC.out _ T.out.tS).mono ?_; rintro ee w5 ⟨A4, c4, B4, d4, C4, g4, rfl, rA, rB, rC, bb⟩; dsimp only at rA rB rC ⊢; have RA := Lib.hid rA; have RB := Lib.hid rB; have RC := Lib.hid rC; have T5 := Lib.hid (T.out.step bb); clear rA rB rC bb y0 y1 z0 z1 z2; obtain ⟨⟨r0, r1, r2, r3, r4, r5, r6, r7, r8, r9⟩, t0, t1, t2, t3, t4, t5, t6, t7, t8, t9⟩ := out_cells T5.out.res)
        have EE := out_end (A := A4) (B := B4) (C := C4) (l := el) (m := em) (q := rl) T5.out.res noLab_out T5.out.bel (by omega) RA.out RB.out RC.out [(0, .int .i64 ea), (1, .string ⟨ES.toArray⟩), (2, .slice A4 el.length c4), (3, .string ⟨EX.toArray⟩), (4, .slice B4 em.length d4), (5, .string ⟨RS.toArray⟩), (6, .slice C4 rl.length g4), (7, .bool bl), (8, .bool bw), (9, .int .i64 ra)]
        have EB : Blk (setMany w5 (w.heap.size + 1 + 1) [(0, .int .i64 ea), (1, .string ⟨ES.toArray⟩), (2, .slice A4 el.length c4), (3, .string ⟨EX.toArray⟩), (4, .slice B4 em.length d4), (5, .string ⟨RS.toArray⟩), (6, .slice C4 rl.length g4), (7, .bool bl), (8, .bool bw), (9, .int .i64 ra)]) (w.heap.size + 1 + 1) 47 #[.int .i64 ea, .string ⟨ES.toArray⟩, .slice A4 el.length c4, .string ⟨EX.toArray⟩, .slice B4 em.length d4, .string ⟨RS.toArray⟩, .slice C4 rl.length g4, .bool bl, .bool bw, .int .i64 ra] := out_ten T5.out.res _ _ _ _ _ _ _ _ _ _
        change bodyPost _ _ _ _ _ (setMany w5 (w.heap.size + 1 + 1) [(0, .int .i64 ea), (1, .string ⟨ES.toArray⟩), (2, .slice A4 el.length c4), (3, .string ⟨EX.toArray⟩), (4, .slice B4 em.length d4), (5, .string ⟨RS.toArray⟩), (6, .slice C4 rl.length g4), (7, .bool bl), (8, .bool bw), (9, .int .i64 ra)])
        generalize setMany w5 (w.heap.size + 1 + 1) [(0, .int .i64 ea), (1, .string ⟨ES.toArray⟩), (2, .slice A4 el.length c4), (3, .string ⟨EX.toArray⟩), (4, .slice B4 em.length d4), (5, .string ⟨RS.toArray⟩), (6, .slice C4 rl.length g4), (7, .bool bl), (8, .bool bw), (9, .int .i64 ra)] = wz at *
        refine ret_out rfl _ _ (w.heap.size + 1 + 1) #[.int .i64 ea, .string ⟨ES.toArray⟩, .slice A4 el.length c4, .string ⟨EX.toArray⟩, .slice B4 em.length d4, .string ⟨RS.toArray⟩, .slice C4 rl.length g4, .bool bl, .bool bw, .int .i64 ra] rfl rfl EB rfl ?_
        exact ⟨A4, c4, B4, d4, C4, g4, rfl, EE.1, EE.2.1, EE.2.2.1, EE.2.2.2⟩
      have g74 : (op == 74) = false := by rw [beq_eq_false_iff_ne]; exact h74
      have hz : (out0, 2) = ((⟨⟨ea, ES, el, EX, em⟩, RS, rl, bl, bw, ra⟩, rn) : OutP × Nat) := by simpa [h100, h121, h99, h62, h60, h126, h74] using HV.out
      have HZ := Lib.hid hz
      have T3 := T
      clear hz z0 z1 z2 y0 y1
      obtain ⟨⟨r0, r1, r2, r3, r4, r5, r6, r7, r8, r9⟩, t0, t1, t2, t3, t4, t5, t6, t7, t8, t9⟩ := out_cells T3.out.res
      go_wp2_with fail
      have EE := out_end (A := none) (B := none) (C := none) (l := []) (m := []) (q := []) T3.out.res noLab_out T3.out.bel (by omega) (.inl rfl) (.inl rfl) (.inl rfl) [(0, .int .i64 0), (1, .string ⟨#[]⟩), (2, .slice none 0 0), (3, .string ⟨#[]⟩), (4, .slice none 0 0), (5, .string ⟨#[]⟩), (6, .slice none 0 0), (7, .bool false), (8, .bool false), (9, .int .i64 0)]
      have EB : Blk (setMany w4 (w.heap.size + 1 + 1) [(0, .int .i64 0), (1, .string ⟨#[]⟩), (2, .slice none 0 0), (3, .string ⟨#[]⟩), (4, .slice none 0 0), (5, .string ⟨#[]⟩), (6, .slice none 0 0), (7, .bool false), (8, .bool false), (9, .int .i64 0)]) (w.heap.size + 1 + 1) 47 #[.int .i64 0, .string ⟨#[]⟩, .slice none 0 0, .string ⟨#[]⟩, .slice none 0 0, .string ⟨#[]⟩, .slice none 0 0, .bool false, .bool false, .int .i64 0] := out_ten T3.out.res _ _ _ _ _ _ _ _ _ _
      change bodyPost _ _ _ _ _ (setMany w4 (w.heap.size + 1 + 1) [(0, .int .i64 0), (1, .string ⟨#[]⟩), (2, .slice none 0 0), (3, .string ⟨#[]⟩), (4, .slice none 0 0), (5, .string ⟨#[]⟩), (6, .slice none 0 0), (7, .bool false), (8, .bool false), (9, .int .i64 0)])
      generalize setMany w4 (w.heap.size + 1 + 1) [(0, .int .i64 0), (1, .string ⟨#[]⟩), (2, .slice none 0 0), (3, .string ⟨#[]⟩), (4, .slice none 0 0), (5, .string ⟨#[]⟩), (6, .slice none 0 0), (7, .bool false), (8, .bool false), (9, .int .i64 0)] = wz at *
      refine ret_out rfl _ _ (w.heap.size + 1 + 1) #[.int .i64 0, .string ⟨#[]⟩, .slice none 0 0, .string ⟨#[]⟩, .slice none 0 0, .string ⟨#[]⟩, .slice none 0 0, .bool false, .bool false, .int .i64 0] rfl rfl EB rfl ?_
      rw [← HZ.out]
      exact ⟨none, 0, none, 0, none, 0, rfl, EE.1, EE.2.1, EE.2.2.1, EE.2.2.2⟩
    · have hrm2 : rightM V f t b = false := by simpa using hrm
      rw [hrm2] at HRG
      have HZ := Lib.hid ((if_pos (show (0 : Nat) ≠ 0 ∨ rightM V f t b = false from .inr hrm2)).symm.trans HV.out)
      go_upto_region 3 with (go_at_call 56; refine (HRG.out _).mono ?_; rintro ee w4 ⟨rfl, bb⟩; replace T := Lib.hid (T.out.step bb); clear bb z0 z1 z2)
      have T3 := T
      obtain ⟨⟨r0, r1, r2, r3, r4, r5, r6, r7, r8, r9⟩, t0, t1, t2, t3, t4, t5, t6, t7, t8, t9⟩ := out_cells T3.out.res
      go_wp2_with fail
      have EE := out_end (A := none) (B := none) (C := none) (l := []) (m := []) (q := []) T3.out.res noLab_out T3.out.bel (by omega) (.inl rfl) (.inl rfl) (.inl rfl) [(0, .int .i64 0), (1, .string ⟨#[]⟩), (2, .slice none 0 0), (3, .string ⟨#[]⟩), (4, .slice none 0 0), (5, .string ⟨#[]⟩), (6, .slice none 0 0), (7, .bool false), (8, .bool false), (9, .int .i64 0)]
      have EB : Blk (setMany w4 (w.heap.size + 1 + 1) [(0, .int .i64 0), (1, .string ⟨#[]⟩), (2, .slice none 0 0), (3, .string ⟨#[]⟩), (4, .slice none 0 0), (5, .string ⟨#[]⟩), (6, .slice none 0 0), (7, .bool false), (8, .bool false), (9, .int .i64 0)]) (w.heap.size + 1 + 1) 47 #[.int .i64 0, .string ⟨#[]⟩, .slice none 0 0, .string ⟨#[]⟩, .slice none 0 0, .string ⟨#[]⟩, .slice none 0 0, .bool false, .bool false, .int .i64 0] := out_ten T3.out.res _ _ _ _ _ _ _ _ _ _
      change bodyPost _ _ _ _ _ (setMany w4 (w.heap.size + 1 + 1) [(0, .int .i64 0), (1, .string ⟨#[]⟩), (2, .slice none 0 0), (3, .string ⟨#[]⟩), (4, .slice none 0 0), (5, .string ⟨#[]⟩), (6, .slice none 0 0), (7, .bool false), (8, .bool false), (9, .int .i64 0)])
      generalize setMany w4 (w.heap.size + 1 + 1) [(0, .int .i64 0), (1, .string ⟨#[]⟩), (2, .slice none 0 0), (3, .string ⟨#[]⟩), (4, .slice none 0 0), (5, .string ⟨#[]⟩), (6, .slice none 0 0), (7, .bool false), (8, .bool false), (9, .int .i64 0)] = wz at *
      refine ret_out rfl _ _ (w.heap.size + 1 + 1) #[.int .i64 0, .string ⟨#[]⟩, .slice none 0 0, .string ⟨#[]⟩, .slice none 0 0, .string ⟨#[]⟩, .slice none 0 0, .bool false, .bool false, .int .i64 0] rfl rfl EB rfl ?_
      rw [← HZ.out]
      exact ⟨none, 0, none, 0, none, 0, rfl, EE.1, EE.2.1, EE.2.2.1, EE.2.2.2⟩
  · have HZ := Lib.hid ((if_pos (show n ≠ 0 ∨ rightM V f t b = false from .inl hn)).symm.trans HV.out)
    have hn1 : ((n : Int) == 0) = false := by rw [beq_eq_false_iff_ne]; omega
    have hn2 : ((n : Int) != 0) = true := by rw [bne_iff_ne]; omega
    have T3 := T
    clear z0 z1 z2
    obtain ⟨⟨r0, r1, r2, r3, r4, r5, r6, r7, r8, r9⟩, t0, t1, t2, t3, t4, t5, t6, t7, t8, t9⟩ := out_cells T3.out.res
    go_wp2_with fail
    have EE := out_end (A := none) (B := none) (C := none) (l := []) (m := []) (q := []) T3.out.res noLab_out T3.out.bel (by omega) (.inl rfl) (.inl rfl) (.inl rfl) [(0, .int .i64 0), (1, .string ⟨#[]⟩), (2, .slice none 0 0), (3, .string ⟨#[]⟩), (4, .slice none 0 0), (5, .string ⟨#[]⟩), (6, .slice none 0 0), (7, .bool false), (8, .bool false), (9, .int .i64 0)]
    have EB : Blk (setMany w2 (w.heap.size + 1 + 1) [(0, .int .i64 0), (1, .string ⟨#[]⟩), (2, .slice none 0 0), (3, .string ⟨#[]⟩), (4, .slice none 0 0), (5, .string ⟨#[]⟩), (6, .slice none 0 0), (7, .bool false), (8, .bool false), (9, .int .i64 0)]) (w.heap.size + 1 + 1) 47 #[.int .i64 0, .string ⟨#[]⟩, .slice none 0 0, .string ⟨#[]⟩, .slice none 0 0, .string ⟨#[]⟩, .slice none 0 0, .bool false, .bool false, .int .i64 0] := out_ten T3.out.res _ _ _ _ _ _ _ _ _ _
    change bodyPost _ _ _ _ _ (setMany w2 (w.heap.size + 1 + 1) [(0, .int .i64 0), (1, .string ⟨#[]⟩), (2, .slice none 0 0), (3, .string ⟨#[]⟩), (4, .slice none 0 0), (5, .string ⟨#[]⟩), (6, .slice none 0 0), (7, .bool false), (8, .bool false), (9, .int .i64 0)])
    generalize setMany w2 (w.heap.size + 1 + 1) [(0, .int .i64 0), (1, .string ⟨#[]⟩), (2, .slice none 0 0), (3, .string ⟨#[]⟩), (4, .slice none 0 0), (5, .string ⟨#[]⟩), (6, .slice none 0 0), (7, .bool false), (8, .bool false), (9, .int .i64 0)] = wz at *
    refine ret_out rfl _ _ (w.heap.size + 1 + 1) #[.int .i64 0, .string ⟨#[]⟩, .slice none 0 0, .string ⟨#[]⟩, .slice none 0 0, .string ⟨#[]⟩, .slice none 0 0, .bool false, .bool false, .int .i64 0] rfl rfl EB rfl ?_
    rw [← HZ.out]
    exact ⟨none, 0, none, 0, none, 0, rfl, EE.1, EE.2.1, EE.2.2.1, EE.2.2.2⟩
end Go.Proofs.YtgpmfkedcoiopaaGreatDoor

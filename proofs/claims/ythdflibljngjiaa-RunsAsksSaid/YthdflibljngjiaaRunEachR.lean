/-
  The landed Raise: layer 3.
-/
import Derived.Test.YthdflibljngjiaaRunOwnSplice
import Derived.StillTailTactics
import Derived.Deep.RegionHeld3
namespace Go.Proofs.Ythdflibljngjiaa
open Go.RowKit

theorem ent_raise (args : Array Value) (w : World) : Sem.run Try.prog (callFunc 43 args) w = .ok (.enter 43 args) w := by rfl
theorem ent_raise1 (args : Array Value) (w : World) : Sem.run Try.prog (callFunc 44 args) w = .ok (.enter 44 args) w := by rfl

/-- what the raising closure finds -/
def RaiseI (base g ga gb y : Nat) (w : World) (b : List Nat) : Prop := Gath w base g b ∧ Blk w ga 53 #[.func (.func 46) #[] #[.pointer (some ⟨g, 0, none⟩)]] ∧ Blk w gb 33 #[.int .u64 (y : Nat)]

set_option maxHeartbeats 1000000 in
theorem raiseOne_any (base g ga gb y : Nat) (hga : ga ≠ g) (hgb : gb ≠ g) (hy : y < 18446744073709551616) (b : List Nat) (x : Nat) (n : Int) (hx : x < 18446744073709551616) (hn : -10000 ≤ n ∧ n ≤ 10000) (hb : b.length ≤ 100000) (w : World) (hI : RaiseI base g ga gb y w b) :
    Calls Try.prog 44 #[.agg #[.int .u64 x, .int .i64 n], .pointer (some ⟨ga, 0, none⟩), .pointer (some ⟨gb, 0, none⟩)] w fun e w' => e = .returned (.tuple #[]) ∧ RaiseI base g ga gb y w' (b ++ List.replicate n.toNat (x ||| y)) ∧ Kept base g w w' := by
  have HI := Lib.hid hI
  obtain ⟨hG, ba, bb⟩ := hI
  have ca := ba.cell 0
  have cb := bb.cell 0
  simp at ca cb
  have la := ba.lt
  have lb := bb.lt
  have HO := Lib.hid (or_lt hx hy)
  have hz : g ≤ w.heap.size := by have := hG.1; have := hG.2.1; omega
  clear hG ba bb
  have W := Lib.hid (show ∃ w1, (w.alloc (.cells #[.int .u64 (x : Nat), .int .i64 n] 51)).drew = w1 ∧ w1.cell? ⟨ga, 0, none⟩ = some (.func (.func 46) #[] #[.pointer (some ⟨g, 0, none⟩)]) ∧ w1.cell? ⟨gb, 0, none⟩ = some (.int .u64 (y : Nat)) ∧
      w1.cell? ⟨w.heap.size, 0, none⟩ = some (.int .u64 (x : Nat)) ∧ w1.cell? ⟨w.heap.size, 1, none⟩ = some (.int .i64 n) ∧ RaiseI base g ga gb y w1 b ∧ Kept base g w w1 from
    ⟨_, rfl, by have := (HI.out.2.1.alloc (.cells #[.int .u64 (x : Nat), .int .i64 n] 51)).cell 0; simpa using this, by have := (HI.out.2.2.alloc (.cells #[.int .u64 (x : Nat), .int .i64 n] 51)).cell 0; simpa using this,
      by simp, by simp,
      ⟨(HI.out.1.alloc _).drewN 1, (HI.out.2.1.alloc _).drew, (HI.out.2.2.alloc _).drew⟩, ((Kept.refl base g w).alloc hz _).drewN 1⟩)
  go_enter Try.func44, Try.ntmps44
  go_wp2_with fail
  refine wp_region_still_tail 8 (by kernel_rfl) (by kernel_rfl) ?_
  simp only [List.take_succ_cons, List.take_zero, List.drop_succ_cons, List.drop_zero]
  change wpStill _ _ (World.drew (w.alloc (.cells #[.int .u64 (x : Nat), .int .i64 n] 51))) (fun a' => wpList _ _ _ _ a' (World.drew (w.alloc (.cells #[.int .u64 (x : Nat), .int .i64 n] 51)))) _ _
  obtain ⟨w1, hw1, d0, d1, d2, d3, hI1, hK1⟩ := W.out
  clear W
  rw [hw1]
  clear hw1 ca cb
  have HI1 := Lib.hid hI1
  clear hI1
  still_step
  still_step
  still_step
  still_step
  still_call ((join_any x y hx hy _).mono fun e w' h => ⟨h.1, h.2.symm⟩)
  still_step
  still_step
  still_step
  refine wpStill_nil ?_
  go_wp2_with (go_at_call 46; refine (runAdd_any base g b (x ||| y) n HO.out (by omega) (by omega) w1 HI1.out.1).mono ?_; rintro e w2 ⟨rfl, hG2, hK2⟩)
  go_end0
  exact ⟨rfl, ⟨hG2, hK2.2 _ _ _ HI1.out.2.1 hga (by decide), hK2.2 _ _ _ HI1.out.2.2 hgb (by decide)⟩, hK1.trans hK2⟩

theorem kept_below {base g : Nat} {a b : World} (h : Below a.heap.size a b) (hg : g ≤ a.heap.size) : Kept base g a b := ⟨h.mono hg, fun _ _ _ hb _ _ => hb.below h hb.lt⟩
theorem gath_below {base g : Nat} {a b : World} {l : List Nat} (hG : Gath a base g l) (h : Below a.heap.size a b) : Gath b base g l := by
  obtain ⟨h1, h2, v, h3, h4⟩ := hG
  have := h.size
  exact ⟨h1, by omega, v, h3.below h h3.lt, own_keep h4 h (Nat.le_refl _)⟩
theorem keep_K {P : World → Prop} {base g : Nat} {w2 : World} (h : ∀ w', Kept base g w2 w' → P w') : ∀ w', Kept base g w2 w' → P w' := h

/-- part, onto the list, raised -/
theorem runPartRaise_any (base g ga gb y : Nat) (hga : ga ≠ g) (hgb : gb ≠ g) (hy : y < 18446744073709551616) (A : Option Addr) (c B : Nat) (l : List RunP) (f t : Int) (hf : Fits l) (hlen : l.length ≤ maxLen) (hg : goodB l = true) (h0 : 0 ≤ f) (h1 : f ≤ t) (h2 : t ≤ 4096) (b : List Nat) (hb : b.length ≤ 90000)
    (w : World) (hI : RaiseI base g ga gb y w b) (hB : B ≤ g) (h : Row w B A (flatR l)) :
    Calls Try.prog 39 #[.slice A l.length c, .int .i64 f, .int .i64 t, .func (.func 44) #[] #[.pointer (some ⟨ga, 0, none⟩), .pointer (some ⟨gb, 0, none⟩)]] w fun e w' =>
      e = .returned (.tuple #[]) ∧ RaiseI base g ga gb y w' (b ++ (cut (bytesOf l) f t).map (fun x => x ||| y)) ∧ Kept base g w w' :=
  runPart_any 44 ent_raise1 #[.pointer (some ⟨ga, 0, none⟩), .pointer (some ⟨gb, 0, none⟩)] base g (fun x => x ||| y) (RaiseI base g ga gb y) (fun w b o h => ⟨h.1.alloc o, h.2.1.alloc o, h.2.2.alloc o⟩) (fun w b h => by have := h.1.1; have := h.1.2.1; omega)
    (fun b x n w hb hx hn hI => raiseOne_any base g ga gb y hga hgb hy b x n hx hn hb w hI) A c B l f t hf hlen ((goodB_iff l).1 hg).1 (goodB_nonneg hg) h0 h1 h2 b hb w hI hB h

set_option maxHeartbeats 1000000 in
theorem raiseEach_any (g gl gf gt gb y : Nat) (hy : y < 18446744073709551616) (A : Option Addr) (c B : Nat) (l : List RunP) (f t : Int) (hf : Fits l) (hlen : l.length ≤ maxLen) (hg : goodB l = true)
    (h0 : 0 ≤ f) (h1 : f ≤ t) (h2 : t ≤ ((bytesOf l).length : Int)) (hl : (bytesOf l).length ≤ 4096)
    (w : World) (hI : Gath w (g + 1) g []) (hB : B ≤ g) (h : Row w B A (flatR l)) (bl : Blk w gl 22 #[.slice A l.length c]) (bf : Blk w gf 3 #[.int .i64 f]) (bt : Blk w gt 3 #[.int .i64 t])
    (bb : Blk w gb 33 #[.int .u64 (y : Nat)]) (kl : gl < g) (kf : gf < g) (kt : gt < g) (kb : gb < g) :
    Calls Try.prog 43 #[.func (.func 46) #[] #[.pointer (some ⟨g, 0, none⟩)], .pointer (some ⟨gl, 0, none⟩), .pointer (some ⟨gf, 0, none⟩), .pointer (some ⟨gt, 0, none⟩), .pointer (some ⟨gb, 0, none⟩)] w fun e w' =>
      e = .returned (.tuple #[]) ∧ Gath w' (g + 1) g ((bytesOf l).take f.toNat ++ (cut (bytesOf l) f t).map (fun x => x ||| y) ++ (bytesOf l).drop t.toNat) ∧ Below g w w' := by
  have HF := Lib.hid hf
  clear hf
  have e1 : cut (bytesOf l) 0 f = (bytesOf l).take f.toNat := cut_front
  have e3 : cut (bytesOf l) t ((bytesOf l).length : Nat) = (bytesOf l).drop t.toNat := cut_back (by omega)
  have HT := Lib.hid (totalOf_good hg)
  have HE := Lib.hid (And.intro e1 e3)
  clear e1 e3
  have HL1 : Hid (([] ++ cut (bytesOf l) 0 f).length ≤ 90000) := by show _ ≤ _; rw [HE.out.1, List.nil_append, List.length_take]; omega
  have HC := Lib.hid (cut_len h0 h1 h2)
  have HL2 : Hid ((([] ++ cut (bytesOf l) 0 f) ++ (cut (bytesOf l) f t).map (fun x => x ||| y)).length ≤ 90000) := by
    have := HC.out
    show _ ≤ _; rw [HE.out.1, List.nil_append, List.length_append, List.length_map, List.length_take]; omega
  have zg : g + 1 ≤ w.heap.size := hI.2.1
  have kz : gb ≠ g := by omega
  have hv1 : w.heap.size ≠ g := by omega
  have BA : Hid (Blk (w.alloc (.cells #[.func (.func 46) #[] #[.pointer (some ⟨g, 0, none⟩)]] 53)) w.heap.size 53 #[.func (.func 46) #[] #[.pointer (some ⟨g, 0, none⟩)]]) := Blk.new _ _ _
  have BB := Lib.hid (bb.alloc (.cells #[.func (.func 46) #[] #[.pointer (some ⟨g, 0, none⟩)]] 53))
  have BL := Lib.hid (bl.alloc (.cells #[.func (.func 46) #[] #[.pointer (some ⟨g, 0, none⟩)]] 53))
  have BF := Lib.hid (bf.alloc (.cells #[.func (.func 46) #[] #[.pointer (some ⟨g, 0, none⟩)]] 53))
  have BT := Lib.hid (bt.alloc (.cells #[.func (.func 46) #[] #[.pointer (some ⟨g, 0, none⟩)]] 53))
  have HG := Lib.hid (hI.alloc (.cells #[.func (.func 46) #[] #[.pointer (some ⟨g, 0, none⟩)]] 53))
  have HB0 : Hid (Below g w (w.alloc (.cells #[.func (.func 46) #[] #[.pointer (some ⟨g, 0, none⟩)]] 53))) := (Below.refl g w).alloc (by omega) _
  have HR := Lib.hid (h.below (HB0.out.mono hB))
  have c1 := bl.cell 0
  have c2 := bf.cell 0
  simp at c1 c2
  have ll := bl.lt
  have lf := bf.lt
  clear bl bf bt bb h hI
  go_enter Try.func43, Try.ntmps43
  go_wp2_with fail
  refine (runPartAdd_any (g + 1) g A c B l 0 f HF.out hlen hg (by omega) h0 (by omega) [] (by simp) _ HG.out hB HR.out).mono ?_
  rintro e w1 ⟨rfl, hI1, hb1⟩
  have B1 := Lib.hid (And.intro (hb1.2 _ _ _ BA.out hv1 (by decide)) (And.intro (BL.out.below hb1.1 kl) (And.intro (BF.out.below hb1.1 kf) (And.intro (BT.out.below hb1.1 kt) (And.intro (BB.out.below hb1.1 kb) (And.intro (HR.out.below (hb1.1.mono hB)) (HB0.out.trans hb1.1)))))))
  clear c1 c2 BA BB BL BF BT HG HB0 HR hb1 ll lf
  have c1 := B1.out.2.1.cell 0
  have c2 := B1.out.2.2.1.cell 0
  have c3 := B1.out.2.2.2.1.cell 0
  simp at c1 c2 c3
  go_wp2_with fail
  refine (runPartRaise_any (g + 1) g w.heap.size gb y hv1 kz hy A c B l f t HF.out hlen hg h0 h1 (by omega) _ HL1.out w1 ⟨hI1, B1.out.1, B1.out.2.2.2.2.1⟩ hB B1.out.2.2.2.2.2.1).mono ?_
  rintro e w2 ⟨rfl, ⟨hI2, hA2, _⟩, hb2⟩
  clear c1 c2 c3
  have z2 : g + 1 ≤ w2.heap.size := hI2.2.1
  have B2' := Lib.hid (And.intro hA2 (And.intro (B1.out.2.1.below hb2.1 kl) (And.intro (B1.out.2.2.2.1.below hb2.1 kt) (And.intro (B1.out.2.2.2.2.2.1.below (hb2.1.mono hB)) (B1.out.2.2.2.2.2.2.trans hb2.1)))))
  have K3 := Lib.hid (keep_K (base := g + 1) (g := g) (w2 := w2) (P := fun w' => w'.cell? ⟨gl, 0, none⟩ = some (.slice A l.length c) ∧ w'.cell? ⟨gt, 0, none⟩ = some (.int .i64 t) ∧ w'.cell? ⟨w.heap.size, 0, none⟩ = some (.func (.func 46) #[] #[.pointer (some ⟨g, 0, none⟩)]))
    (fun w' hk => ⟨by have := (B2'.out.2.1.below hk.1 kl).cell 0; simpa using this, by have := (B2'.out.2.2.1.below hk.1 kt).cell 0; simpa using this, by have := (hk.2 _ _ _ B2'.out.1 hv1 (by decide)).cell 0; simpa using this⟩))
  have K2 := Lib.hid (Kept.drewN (Kept.refl (g + 1) g w2) 1)
  have G2 := Lib.hid (hI2.drewN 1)
  have R2 := Lib.hid (B2'.out.2.2.2.1.drewN 1)
  clear hI2 hA2 hb2 B1
  go_wp2_with fail
  go_region_held3 (fun w' => w'.cell? ⟨gl, 0, none⟩ = some (.slice A l.length c) ∧ w'.cell? ⟨gt, 0, none⟩ = some (.int .i64 t) ∧ w'.cell? ⟨w.heap.size, 0, none⟩ = some (.func (.func 46) #[] #[.pointer (some ⟨g, 0, none⟩)]))
    (first
      | exact K3.out _ K2.out
      | exact K3.out _ K4.out
      | exact K3.out _ K6.out)
    (first
      | (go_at_call 17; refine (runTotal_any A c B l HF.out hlen w2.drew (by show B ≤ w2.heap.size; omega) R2.out).mono ?_; rintro e w3 ⟨rfl, hb3⟩; rw [HT.out]; have K4 := Lib.hid (K2.out.trans (kept_below (base := g + 1) (g := g) hb3 (by show g ≤ w2.heap.size; omega))); have G4 := Lib.hid (gath_below G2.out hb3); have R4 := Lib.hid (R2.out.below (hb3.mono (by show B ≤ w2.heap.size; omega))); clear hb3)
      | (go_at_call 39; refine (runPartAdd_any (g + 1) g A c B l t ((bytesOf l).length : Nat) HF.out hlen hg (by omega) h2 (by omega) _ HL2.out w3 G4.out hB R4.out).mono ?_; rintro e w4 ⟨rfl, hI4, hb4⟩; have K6 := Lib.hid (K4.out.trans hb4)))
  go_wp2
  go_end0
  rw [HE.out.1, HE.out.2, List.nil_append] at hI4
  exact ⟨rfl, hI4, B2'.out.2.2.2.2.trans K6.out.1⟩

set_option maxHeartbeats 1000000 in
theorem runRaise_any (A : Option Addr) (c B : Nat) (l : List RunP) (f t : Int) (y : Nat) (hy : y < 18446744073709551616) (hf : Fits l) (hlen : l.length ≤ maxLen) (w : World) (hB : B ≤ w.heap.size) (h : Row w B A (flatR l)) :
    Calls Try.prog 29 #[.slice A l.length c, .int .i64 f, .int .i64 t, .int .u64 y] w (Gives w (raiseOf l f t y)) := by
  have HF := Lib.hid hf
  clear hf
  have Q := Lib.hid (box_facts w 22 3 3 33 (.slice A l.length c) (.int .i64 f) (.int .i64 t) (.int .u64 (y : Nat)))
  have HRW := Lib.hid (h.below (Q.out.1.mono hB))
  by_cases hw : withinB l f t = true
  · have HR := Lib.hid (raiseOf_ok (y := y) hw)
    obtain ⟨hg, h0, h1, h2, h3, hs⟩ := within_of hw
    go_enter Try.func29, Try.ntmps29
    go_wp2_with (go_at_call 37; refine (runWithin_any A c B l f t HF.out hlen _ (by rw [Q.out.2.1]; omega) HRW.out).mono ?_; rintro e w1 ⟨rfl, hb1⟩; rw [hw])
    have z1 : w.heap.size + 4 ≤ w1.heap.size := by have := hb1.size; rw [Q.out.2.1] at this; exact this
    have p0 := Q.out.2.2.1.below hb1 (by rw [Q.out.2.1]; omega)
    have p1 := Q.out.2.2.2.1.below hb1 (by rw [Q.out.2.1]; omega)
    have p2 := Q.out.2.2.2.2.1.below hb1 (by rw [Q.out.2.1]; omega)
    have p3 := Q.out.2.2.2.2.2.below hb1 (by rw [Q.out.2.1]; omega)
    have prow := HRW.out.below (hb1.mono (by rw [Q.out.2.1]; omega))
    have pb := Q.out.1.trans (hb1.mono (by rw [Q.out.2.1]; omega))
    clear Q hb1 HRW
    refine (runMerged_any 43 ent_raise _ ((bytesOf l).take f.toNat ++ (cut (bytesOf l) f t).map (fun x => x ||| y) ++ (bytesOf l).drop t.toNat) w1 fun w2 hG hb2 => ?_).mono ?_
    · exact raiseEach_any w1.heap.size w.heap.size (w.heap.size + 1) (w.heap.size + 1 + 1) (w.heap.size + 1 + 1 + 1) y hy A c B l f t HF.out hlen hg h0 h1 h2 h3 w2 hG (by omega) (prow.below (hb2.mono (by omega))) (p0.below hb2 (by omega)) (p1.below hb2 (by omega)) (p2.below hb2 (by omega)) (p3.below hb2 (by omega)) (by omega) (by omega) (by omega) (by omega)
    · rintro e w2 ⟨A2, c2, rfl, hown2, hb2⟩
      generalize (bytesOf l).take f.toNat ++ (cut (bytesOf l) f t).map (fun x => x ||| y) ++ (bytesOf l).drop t.toNat = X at *
      go_wp2
      go_ret2
      rw [HR.out]
      exact ⟨A2, c2, rfl, own_base hown2 (by omega), pb.trans (hb2.mono (by omega))⟩
  · have HR := Lib.hid (raiseOf_bad (y := y) hw)
    have hw' : withinB l f t = false := by simpa using hw
    go_enter Try.func29, Try.ntmps29
    go_wp2_with (go_at_call 37; refine (runWithin_any A c B l f t HF.out hlen _ (by rw [Q.out.2.1]; omega) HRW.out).mono ?_; rintro e w1 ⟨rfl, hb1⟩; rw [hw'])
    go_ret2
    rw [HR.out]
    exact gives_nil (Q.out.1.trans (hb1.mono (by rw [Q.out.2.1]; omega)))
end Go.Proofs.Ythdflibljngjiaa

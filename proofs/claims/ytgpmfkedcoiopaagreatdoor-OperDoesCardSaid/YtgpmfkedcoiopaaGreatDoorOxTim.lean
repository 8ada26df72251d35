/-
  The landed times: a text so many times, by halves: layer 14.
-/
import Derived.Test.YtgpmfkedcoiopaaGreatDoorM14h
import Derived.Test.YtgpmfkedcoiopaaGreatDoorM14d
import Derived.Test.YtgpmfkedcoiopaaGreatDoorM04o
namespace Go.Proofs.YtgpmfkedcoiopaaGreatDoor
open Go.RowKit
set_option maxRecDepth 100000

def repM {α : Type} (n : Nat) (X : List α) : List α := (List.replicate n X).flatten
theorem repM_succ {α : Type} (a : Nat) (X : List α) : repM (a + 1) X = X ++ repM a X := by unfold repM; rw [List.replicate_succ, List.flatten_cons]
theorem repM_add {α : Type} (a b : Nat) (X : List α) : repM (a + b) X = repM a X ++ repM b X := by
  induction a with
  | zero => rw [Nat.zero_add]; rfl
  | succ a ih => rw [show a + 1 + b = a + b + 1 by omega, repM_succ, repM_succ, ih, List.append_assoc]
theorem repM_one {α : Type} (X : List α) : repM 1 X = X := by simp [repM]
theorem repM_len {α : Type} (n : Nat) (X : List α) : (repM n X).length = X.length * n := by
  induction n with
  | zero => simp [repM]
  | succ n ih => rw [repM_add, repM_one, List.length_append, ih, Nat.mul_succ]
def tmT (X : List UInt8) (m : List RunP) (n : Nat) : TP × Nat := if X.length * n ≤ 4096 then ((repM n X, pack (repM n (bytesOf m))), 0) else (([], []), 3)
theorem times_tm {X : List UInt8} {m : List RunP} (hg : goodT X m = true) (n : Nat) : timesM [(X, m)] n = if X.length * n ≤ 4096 then some (repM n X, pack (repM n (bytesOf m))) else none := by
  have h1 := goodT_size hg
  have h2 := goodB_eq ((goodT_iff X m).1 hg).1
  have hp : pileM [(X, m)] = some (X, m) := by
    unfold pileM
    rw [if_pos ⟨by simp [goodC, hg], by simp [bytesC]; omega⟩]
    simp [bytesC, labsC, h2]
  unfold timesM
  rw [hp]
  dsimp only
  have hb : ∀ k, bytesC (List.replicate k (X, m)) = repM k X ∧ labsC (List.replicate k (X, m)) = repM k (bytesOf m) ∧ goodC (List.replicate k (X, m)) = true := fun k => by
    induction k with
    | zero => exact ⟨rfl, rfl, rfl⟩
    | succ k ih =>
      obtain ⟨i1, i2, i3⟩ := ih
      rw [List.replicate_succ', bytesC_app, labsC_app, goodC_app, i1, i2, i3, repM_add, repM_add, repM_one, repM_one]
      refine ⟨by simp [bytesC], by simp [labsC], by simp [goodC, hg]⟩
  obtain ⟨b1, b2, b3⟩ := hb n
  by_cases h : X.length * n ≤ 4096
  · rw [if_pos h, if_pos h]
    unfold pileM
    rw [b1, b2, b3, if_pos ⟨rfl, by rw [repM_len]; exact h⟩]
  · rw [if_neg h, if_neg h]
theorem okT_tm {X : List UInt8} {m : List RunP} (hg : goodT X m = true) (hf : Fits m) (n : Nat) : OkT (tmT X m n) ∧ ((tmT X m n).2 = 0 → goodT (tmT X m n).1.1 (tmT X m n).1.2 = true) := by
  have h1 := goodT_size hg
  unfold tmT
  by_cases h : X.length * n ≤ 4096
  · rw [if_pos h]
    have hl : (repM n (bytesOf m)).length = X.length * n := by rw [repM_len, h1.2.2]
    refine ⟨okT_pack (by rw [repM_len]; exact h) (fun x hx => ?_) (by omega), fun _ => good_pack (by rw [repM_len]; exact h) (by rw [hl, repM_len])⟩
    obtain ⟨z, hz, hx⟩ := List.mem_flatten.1 hx
    rw [(List.mem_replicate.1 hz).2] at hx
    exact bytesOf_mem hf x hx
  · rw [if_neg h]
    exact ⟨okT_nil _, fun e => absurd e (by decide)⟩
/-- what is kept in times -/
structure TimK (w wr : World) (A : Option Addr) (c : Nat) (X : List UInt8) (m : List RunP) : Prop where
  t2 : Blk wr w.heap.size 32 #[.string ⟨X.toArray⟩, .slice A m.length c]
  res : Blk wr (w.heap.size + 1) 32 #[.string ⟨[].toArray⟩, .slice none ([] : List RunP).length 0]
  bel : Below w.heap.size w wr
  tx : Txu wr A X m
theorem TimK.step {w wr w' : World} {A : Option Addr} {c : Nat} {X : List UInt8} {m : List RunP} (h : TimK w wr A c X m) (hb : Below wr.heap.size wr w') : TimK w w' A c X m :=
  ⟨h.t2.below hb h.t2.lt, h.res.below hb h.res.lt, h.bel.trans (hb.mono h.bel.size), grow_txu h.tx _ hb⟩
theorem TimK.many {w wr : World} {A : Option Addr} {c : Nat} {X : List UInt8} {m : List RunP} (h : TimK w wr A c X m) {g T : Nat} {cs : Array Value} (hg : Blk wr g T cs) (hn : NoLab cs) (hlow : w.heap.size + 1 < g) (us : List (Nat × Value)) : TimK w (setMany wr g us) A c X m :=
  ⟨setMany_far h.t2 (by omega) us, setMany_far h.res (by omega) us, setMany_below h.bel (by omega) us, setMany_txu h.tx hg hn us⟩
set_option maxHeartbeats 8000000 in
theorem oxTimes_any (X : List UInt8) (m : List RunP) (hg : goodT X m = true) : ∀ (n : Nat), 1 ≤ n → n ≤ 1000 → ∀ (A : Option Addr) (c : Nat) (w : World), Txu w A X m →
    Calls Tryz.prog 133 #[.agg #[.string ⟨X.toArray⟩, .slice A m.length c], .int .i64 (n : Nat)] w (Shows w (tmT X m n)) := by
  intro n
  induction n using Nat.strongRecOn with
  | _ n ih =>
    intro hn1 hn2 A c w h
    have h0 := goodT_size hg
    have hbq := goodB_eq ((goodT_iff X m).1 hg).1
    have K0 : Hid (TimK w ((w.alloc (.cells #[.string ⟨X.toArray⟩, .slice A m.length c] 32)).alloc (.cells #[.string ⟨[].toArray⟩, .slice none ([] : List RunP).length 0] 32)) A c X m) := by
      have BX := boxesE2 w 32 32 #[.string ⟨X.toArray⟩, .slice A m.length c] #[.string ⟨[].toArray⟩, .slice none ([] : List RunP).length 0]
      exact ⟨BX.now.1, BX.now.2.1, BX.now.2.2, grow_txu h _ BX.now.2.2⟩
    have HF := Lib.hid h.hf
    clear h
    by_cases h1 : n = 1
    · subst h1
      have HV : Hid ((((X, m) : TP), 0) = tmT X m 1) := by
        show _ = _
        unfold tmT
        rw [if_pos (by omega), repM_one, repM_one, hbq]
      generalize tmT X m 1 = v at *
      clear ih
      go_enter Tryz.func133, Tryz.ntmps133
      go_upto_region 1 with fail
      generalize (w.alloc (.cells #[.string ⟨X.toArray⟩, .slice A m.length c] 32)).alloc (.cells #[.string ⟨[].toArray⟩, .slice none ([] : List RunP).length 0] 32) = wx at *
      obtain ⟨y0, y1⟩ := txt_cells K0.out.t2
      obtain ⟨z0, z1⟩ := txt_cells K0.out.res
      have z2 := K0.out.res.frozen 0
      have z3 := K0.out.res.frozen 1
      go_wp2_with fail
      exact end_txt rfl _ K0.out.res K0.out.bel (by omega) K0.out.tx.row rfl rfl rfl HV.out (fun _ _ h => h)
    · obtain ⟨k, hk⟩ : ∃ k, n / 2 = k := ⟨_, rfl⟩
      have hk1 : 1 ≤ k := by omega
      have hkn : k < n := by omega
      have IH := Lib.hid (fun A c w h => ih k hkn hk1 (by omega) A c w h)
      have hne : ((n : Int) == 1) = false := by rw [beq_eq_false_iff_ne]; omega
      have hqk : (n : Int).tdiv 2 = (k : Int) := by
        rw [← hk]
        rfl
      have hwk : Hid (wrap64 (k : Int) = k) := by show wrap64 _ = _; unfold wrap64; omega
      have okk := okT_tm hg HF.out k
      obtain ⟨v, hv⟩ : ∃ v, tmT X m n = v := ⟨_, rfl⟩
      rw [hv]
      have HL : Hid (X.length * n = X.length * k + X.length * k + (if n % 2 = 1 then X.length else 0)) := by
        show _ = _
        split
        · next h => rw [show n = k + k + 1 by omega, Nat.mul_add, Nat.mul_add, Nat.mul_one]
        · next h => rw [show n = k + k by omega, Nat.mul_add, Nat.add_zero]
      have HR : Hid (∀ {α : Type} (Z : List α), repM n Z = repM k Z ++ repM k Z ++ (if n % 2 = 1 then Z else [])) := fun Z => by
        split
        · next h => rw [show n = k + k + 1 by omega, repM_add, repM_add, repM_one]
        · next h => rw [show n = k + k by omega, repM_add, List.append_nil]
      have hodd : ((n : Int).tmod 2 == 1) = decide (n % 2 = 1) := by
        have e : (n : Int).tmod 2 = ((n % 2 : Nat) : Int) := rfl
        rw [e]
        by_cases h : n % 2 = 1
        · rw [decide_eq_true h, beq_iff_eq]; omega
        · rw [decide_eq_false h, beq_eq_false_iff_ne]; omega
      clear ih
      by_cases hle : X.length * k ≤ 4096
      · have hkt : tmT X m k = ((repM k X, pack (repM k (bytesOf m))), 0) := if_pos hle
        rw [hkt] at okk
        have hHl : (repM k X).length = X.length * k := repM_len k X
        obtain ⟨H, hH⟩ : ∃ H, repM k X = H := ⟨_, rfl⟩
        obtain ⟨q, hq⟩ : ∃ q, pack (repM k (bytesOf m)) = q := ⟨_, rfl⟩
        have hbq2 : bytesOf q = repM k (bytesOf m) := by rw [← hq, bytesOf_pack]
        rw [hH, hq] at okk hkt
        rw [hH] at hHl
        have gH := okk.2 rfl
        have hcat := catT_two (U := H) (S := H) (q := q) (l := q) gH gH
        have okc := okT_cat (S := H) (X := H) (l := q) (m := q) okk.1.2.1 okk.1.2.1
        have hc2 : H.length + H.length ≤ 4096 → catT (H ++ H) (pack (bytesOf q ++ bytesOf q)) X m = if (H ++ H).length + X.length ≤ 4096 then ((H ++ H ++ X, pack (bytesOf q ++ bytesOf q ++ bytesOf m)), 0) else (([], []), 3) := fun hhh => by
          have gHH : goodT (H ++ H) (pack (bytesOf q ++ bytesOf q)) = true := good_pack (by rw [List.length_append]; exact hhh) (by rw [List.length_append, List.length_append, (goodT_size gH).2.2])
          have := catT_two (U := H ++ H) (S := X) (q := pack (bytesOf q ++ bytesOf q)) (l := m) gHH hg
          rwa [bytesOf_pack] at this
        have okc2 := fun (Z : List UInt8) (z : List RunP) (hz : OkT ((Z, z), 0)) => okT_cat (S := Z) (X := X) (l := z) (m := m) hz.2.1 HF.out
        have HV : Hid (∀ r : TP × Nat, (r = if H.length + H.length ≤ 4096 then (if n % 2 = 1 then (if (H ++ H).length + X.length ≤ 4096 then ((H ++ H ++ X, pack (bytesOf q ++ bytesOf q ++ bytesOf m)), 0) else (([], []), 3)) else ((H ++ H, pack (bytesOf q ++ bytesOf q)), 0)) else (([], []), 3)) → r = v) := by
          rintro r rfl
          rw [← hv]
          unfold tmT
          have hl := HL.out
          have hr1 := HR.out X
          have hr2 := HR.out (bytesOf m)
          rw [hH] at hr1
          rw [← hbq2] at hr2
          by_cases a1 : H.length + H.length ≤ 4096
          · rw [if_pos a1]
            by_cases a2 : n % 2 = 1
            · rw [if_pos a2] at hl hr1 hr2 ⊢
              by_cases a3 : (H ++ H).length + X.length ≤ 4096
              · rw [if_pos a3, if_pos (by rw [List.length_append] at a3; omega), hr1, hr2]
              · rw [if_neg a3, if_neg (by rw [List.length_append] at a3; omega)]
            · rw [if_neg a2] at hl hr1 hr2 ⊢
              rw [if_pos (by omega), hr1, hr2, List.append_nil, List.append_nil]
          · rw [if_neg a1, if_neg (by split at hl <;> omega)]
        have HKT := Lib.hid hkt
        have OKK := Lib.hid okk.1
        have HC2 := Lib.hid hc2
        have OKC2 := Lib.hid okc2
        obtain ⟨cc, hcc⟩ : ∃ cc, catT H q H q = cc := ⟨_, rfl⟩
        rw [hcc] at hcat okc
        have HCC := Lib.hid hcc
        have OKC := Lib.hid okc
        have HCT := Lib.hid hcat
        clear hv HL HR okk hkt hH hq hbq2 gH hcat okc hc2 okc2 hcc hHl hbq h0 hle hk hkn hk1 h1
        obtain ⟨⟨CS, cl⟩, cn⟩ := cc
        go_enter Tryz.func133, Tryz.ntmps133
        go_upto_region 1 with fail
        generalize (w.alloc (.cells #[.string ⟨X.toArray⟩, .slice A m.length c] 32)).alloc (.cells #[.string ⟨[].toArray⟩, .slice none ([] : List RunP).length 0] 32) = wx at *
        obtain ⟨y0, y1⟩ := txt_cells K0.out.t2
        go_upto_region 4 with (go_at_call 133; rw [hwk.out]; refine (IH.out A c _ K0.out.tx).mono ?_; rw [HKT.out]; rintro e w3 ⟨A3, c3, rfl, r3, bb⟩; dsimp only at r3 ⊢; have K3 := Lib.hid ((K0.out.step bb).step ((Below.refl _ _).alloc (Nat.le_refl _) (.cells #[.string ⟨H.toArray⟩, .slice A3 q.length c3] 32))); have R3 := Lib.hid (row_step r3 ((Below.refl _ _).alloc (Nat.le_refl _) (.cells #[.string ⟨H.toArray⟩, .slice A3 q.length c3] 32))); have B3 := Lib.hid (Blk.new w3 32 #[.string ⟨H.toArray⟩, .slice A3 q.length c3]); clear r3 bb y0 y1)
        generalize hg6 : w3.heap.size = g6 at *
        generalize w3.alloc (.cells #[.string ⟨H.toArray⟩, .slice A3 q.length c3] 32) = w4 at *
        clear hg6 K0 IH
        obtain ⟨y0, y1⟩ := txt_cells B3.out
        go_upto_region 7 with (go_at_call 38; refine (stpCat_any A3 A3 c3 c3 _ _ H H q q _ (Nat.le_refl _) (Nat.le_refl _) (OKK.out.txt R3.out) (OKK.out.txt R3.out)).mono ?_; rw [HCC.out]; rintro e w5 ⟨A5, c5, rfl, own, bb⟩; dsimp only at own ⊢; have K5 := Lib.hid ((K3.out.step bb).step ((Below.refl _ _).alloc (Nat.le_refl _) (.cells #[.string ⟨CS.toArray⟩, .slice A5 cl.length c5] 32))); have R5 := Lib.hid (row_step (Row.of_own own) ((Below.refl _ _).alloc (Nat.le_refl _) (.cells #[.string ⟨CS.toArray⟩, .slice A5 cl.length c5] 32))); have B5 := Lib.hid (Blk.new w5 32 #[.string ⟨CS.toArray⟩, .slice A5 cl.length c5]); have N5 : Hid (w.heap.size + 1 < w5.heap.size) := (K3.out.step bb).res.lt; clear own bb y0 y1)
        generalize hg8 : w5.heap.size = g8 at *
        generalize w5.alloc (.cells #[.string ⟨CS.toArray⟩, .slice A5 cl.length c5] 32) = w6 at *
        clear hg8 K3 R3 B3
        by_cases hcn : cn = 0
        · subst hcn
          have hhh : H.length + H.length ≤ 4096 := by
            rcases Nat.lt_or_ge 4096 (H.length + H.length) with h | h
            · have := HCT.out; rw [if_neg (by omega)] at this; injection this with _ h2; exact absurd h2 (by decide)
            · exact h
          have hcs := HCT.out
          rw [if_pos hhh] at hcs
          injection hcs with hcs _
          injection hcs with hcs1 hcs2
          by_cases hod : n % 2 = 1
          · have ho2 : ((n : Int).tmod 2 == 1) = true := by rw [hodd]; exact decide_eq_true hod
            have ho3 : ((n : Int) % 2 == 1) = true := by rw [beq_iff_eq]; omega
            have hcat2 := HC2.out hhh
            rw [← hcs1, ← hcs2] at hcat2
            obtain ⟨dd, hdd⟩ : ∃ dd, catT CS cl X m = dd := ⟨_, rfl⟩
            have okd := OKC2.out CS cl OKC.out
            rw [hdd] at hcat2 okd
            have HDD := Lib.hid hdd
            have HVF : Hid (dd = v) := HV.out dd (by rw [if_pos hhh, if_pos hod, hcat2, hcs1])
            clear hcat2 hdd hodd hcs1 hcs2 HV hod hhh
            obtain ⟨⟨DS, dl⟩, dn⟩ := dd
            obtain ⟨y0, y1⟩ := txt_cells B5.out
            obtain ⟨u0, u1⟩ := txt_cells K5.out.t2
            go_upto_region 9 with (go_at_call 38; refine (stpCat_any A5 A c5 c _ _ CS X cl m _ (Nat.le_refl _) (Nat.le_refl _) (OKC.out.txt R5.out) K5.out.tx).mono ?_; rw [HDD.out]; rintro e w7 ⟨A7, c7, rfl, own, bb⟩; dsimp only at own ⊢; have K7 := Lib.hid (K5.out.step bb); have B7 := Lib.hid (B5.out.below bb B5.out.lt); have R7 := Lib.hid (Row.of_own own); clear own bb y0 y1 u0 u1; obtain ⟨y0, y1⟩ := txt_cells B7.out; have y2 := B7.out.frozen 0; have y3 := B7.out.frozen 1)
            have K8 : Hid (TimK w ((w7.setCell ⟨g8, 0, none⟩ (.string ⟨DS.toArray⟩)).setCell ⟨g8, 1, none⟩ (.slice A7 dl.length c7)) A c X m) := K7.out.many B7.out noLab_txt N5.out [(0, .string ⟨DS.toArray⟩), (1, .slice A7 dl.length c7)]
            have R8 : Hid (Row ((w7.setCell ⟨g8, 0, none⟩ (.string ⟨DS.toArray⟩)).setCell ⟨g8, 1, none⟩ (.slice A7 dl.length c7)) ((w7.setCell ⟨g8, 0, none⟩ (.string ⟨DS.toArray⟩)).setCell ⟨g8, 1, none⟩ (.slice A7 dl.length c7)).heap.size A7 (flatR dl)) := row_many R7.out B7.out noLab_txt [(0, .string ⟨DS.toArray⟩), (1, .slice A7 dl.length c7)]
            have B8 : Hid (Blk ((w7.setCell ⟨g8, 0, none⟩ (.string ⟨DS.toArray⟩)).setCell ⟨g8, 1, none⟩ (.slice A7 dl.length c7)) g8 32 #[.string ⟨DS.toArray⟩, .slice A7 dl.length c7]) := blk_two B7.out _ _
            generalize (w7.setCell ⟨g8, 0, none⟩ (.string ⟨DS.toArray⟩)).setCell ⟨g8, 1, none⟩ (.slice A7 dl.length c7) = w8 at *
            clear y0 y1 y2 y3
            obtain ⟨y0, y1⟩ := txt_cells B8.out
            obtain ⟨z0, z1⟩ := txt_cells K8.out.res
            have z2 := K8.out.res.frozen 0
            have z3 := K8.out.res.frozen 1
            go_wp2_with fail
            exact end_txt rfl _ K8.out.res K8.out.bel (by omega) R8.out rfl rfl rfl HVF.out (fun _ _ h => h)
          · have ho2 : ((n : Int).tmod 2 == 1) = false := by rw [hodd]; exact decide_eq_false hod
            have ho3 : ((n : Int) % 2 == 1) = false := by rw [beq_eq_false_iff_ne]; omega
            have HVF : Hid ((((CS, cl) : TP), 0) = v) := HV.out _ (by rw [if_pos hhh, if_neg hod, hcs1, hcs2])
            clear hodd hcs1 hcs2 HV hod hhh
            obtain ⟨y0, y1⟩ := txt_cells B5.out
            obtain ⟨z0, z1⟩ := txt_cells K5.out.res
            have z2 := K5.out.res.frozen 0
            have z3 := K5.out.res.frozen 1
            go_wp2_with fail
            exact end_txt rfl _ K5.out.res K5.out.bel (by omega) R5.out rfl rfl rfl HVF.out (fun _ _ h => h)
        · have hcs := HCT.out
          have hhh : ¬ H.length + H.length ≤ 4096 := fun e => by rw [if_pos e] at hcs; injection hcs with _ h2; exact hcn h2
          rw [if_neg hhh] at hcs
          have HVF : Hid ((((CS, cl) : TP), cn) = v) := HV.out _ (by rw [if_neg hhh]; exact hcs)
          have hc1 : ((cn : Int) == 0) = false := by rw [beq_eq_false_iff_ne]; omega
          clear hcs HV hhh hodd
          obtain ⟨y0, y1⟩ := txt_cells B5.out
          obtain ⟨z0, z1⟩ := txt_cells K5.out.res
          have z2 := K5.out.res.frozen 0
          have z3 := K5.out.res.frozen 1
          go_wp2_with fail
          exact end_txt rfl _ K5.out.res K5.out.bel (by omega) R5.out rfl rfl rfl HVF.out (fun _ _ h => h)
      · have hkt : tmT X m k = (([], []), 3) := if_neg hle
        have HVF : Hid ((([], []), 3) = v) := by
          show _ = _
          rw [← hv]
          have hl := HL.out
          exact (if_neg (by split at hl <;> omega)).symm
        have HKT := Lib.hid hkt
        clear hv HL HR okk hkt hbq h0 hle hk hkn hk1 h1 hodd
        go_enter Tryz.func133, Tryz.ntmps133
        go_upto_region 1 with fail
        generalize (w.alloc (.cells #[.string ⟨X.toArray⟩, .slice A m.length c] 32)).alloc (.cells #[.string ⟨[].toArray⟩, .slice none ([] : List RunP).length 0] 32) = wx at *
        obtain ⟨y0, y1⟩ := txt_cells K0.out.t2
        go_upto_region 4 with (go_at_call 133; rw [hwk.out]; refine (IH.out A c _ K0.out.tx).mono ?_; rw [HKT.out]; rintro e w3 ⟨A3, c3, rfl, r3, bb⟩; dsimp only; have K3 := Lib.hid ((K0.out.step bb).step ((Below.refl _ _).alloc (Nat.le_refl _) (.cells #[.string ⟨[].toArray⟩, .slice A3 ([] : List RunP).length c3] 32))); clear r3 bb y0 y1)
        obtain ⟨z0, z1⟩ := txt_cells K3.out.res
        have z2 := K3.out.res.frozen 0
        have z3 := K3.out.res.frozen 1
        generalize w3.alloc _ = w4 at *
        go_wp2_with fail
        exact end_txt (A := none) (c := 0) (S := []) (l := []) rfl _ K3.out.res K3.out.bel (by omega) (.inl rfl) rfl rfl rfl HVF.out (fun _ _ h => h)
end Go.Proofs.YtgpmfkedcoiopaaGreatDoor

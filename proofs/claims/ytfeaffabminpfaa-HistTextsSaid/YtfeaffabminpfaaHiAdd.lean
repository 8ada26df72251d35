/-
  The landed Add: layer 8.
-/
import Derived.Test.YtfeaffabminpfaaHiForget
import Derived.BigQuiet
namespace Go.Proofs.Ytfeaffabminpfaa
open Go.RowKit

set_option maxHeartbeats 2000000 in
theorem hiAdd_bad {w : World} {p b : Nat} {G : List StP} {dep now last : Int} (h : Hst w p b G dep now last) {a : Int} {S : List UInt8} {A1 : Option Addr} {l : List RunP} {c1 : Nat} {X : List UInt8} {B1 : Option Addr} {m : List RunP} {d : Nat} (hS : Txu w A1 S l) (hX : Txu w B1 X m) (hg : goodE a S l X m = false) :
    Calls Try.prog 17 #[.pointer (some ⟨p, 0, none⟩), .agg #[.int .i64 a, .string ⟨S.toArray⟩, .slice A1 l.length c1, .string ⟨X.toArray⟩, .slice B1 m.length d]] w fun e w' => e = .returned (.tuple #[.int .i64 0, .int .i64 2]) ∧ Below w.heap.size w w' := by
  have K := Lib.hid ((hst_box h #[.int .i64 a, .string ⟨S.toArray⟩, .slice A1 l.length c1, .string ⟨X.toArray⟩, .slice B1 m.length d] 34).and (((grow_txu hS).and (grow_txu hX)).step ((Below.refl _ w).alloc (Nat.le_refl _) _)))
  clear h hS hX
  go_enter Try.func17, Try.ntmps17
  go_upto_region 3 with (go_at_call 31; refine (hiUsable_any K.out.now.1.2.1.blk).mono ?_; rintro e w' ⟨rfl, rfl⟩)
  generalize w.alloc (.cells #[.int .i64 a, .string ⟨S.toArray⟩, .slice A1 l.length c1, .string ⟨X.toArray⟩, .slice B1 m.length d] 34) = wb at *
  obtain ⟨y0, y1, y2, y3, y4⟩ := ed_cells K.out.now.1.1
  go_wp2_with (go_at_call 37; refine (hiGood_any A1 B1 c1 d a S X l m _ K.out.now.2.1 K.out.now.2.2).mono ?_; rw [hg]; rintro e w2 ⟨rfl, bb⟩)
  go_ret2
  exact ⟨rfl, K.out.now.1.2.2.trans (bb.mono K.out.now.1.2.2.size)⟩

/-- what a list with a state more comes to -/
def AddTo (L : List StP) (dep now : Int) (G' : List StP) : Prop := ((L.length : Int) ≤ dep + 1 ∧ G' = L) ∨ (dep + 1 < (L.length : Int) ∧ ∃ r0 p1 rest, pathS L now = r0 :: p1 :: rest ∧ G' = forgS L p1)
def GivesA (w : World) (p b : Nat) (G : List StP) (dep now last : Int) (a : Int) (S : List UInt8) (l : List RunP) (X : List UInt8) (m : List RunP) (e : Ending) (w' : World) : Prop :=
  ∃ A1 c1 B1 d1 G', e = .returned (.tuple #[.int .i64 (last + 1), .int .i64 0]) ∧ Hst w' p b G' dep (last + 1) (last + 1) ∧ Tch (PB p b) w w' ∧ AddTo (G ++ [⟨last + 1, now, ⟨a, S, A1, l, c1, X, B1, m, d1⟩⟩]) dep (last + 1) G' ∧ RowG w' w.heap.size A1 (flatR l) ∧ RowG w' w.heap.size B1 (flatR m)

theorem no_labH (x y z : Int) (q : Option Nat) : ∀ (i : Nat) (n : Int), (#[.int .i64 x, .int .i64 y, .int .i64 z, .map q] : Array Value)[i]? ≠ some (.int .u64 n) := by
  intro i n h
  match i, h with
  | 0, h => simp at h
  | 1, h => simp at h
  | 2, h => simp at h
  | 3, h => simp at h
  | i + 4, h => simp at h
/-- runs do not lie in a history's variable -/
theorem txu_setH {w : World} {A : Option Addr} {S : List UInt8} {l : List RunP} {p T : Nat} {x y z : Int} {q : Option Nat} (h : Txu w A S l) (hb : Blk w p T #[.int .i64 x, .int .i64 y, .int .i64 z, .map q]) (i : Nat) (v : Value) : Txu (w.setCell ⟨p, i, none⟩ v) A S l :=
  ⟨h.hS, h.hf, h.hl, ((rowN_ty h.row (Nat.le_refl _) hb (no_labH x y z q)).set i v).row⟩
/-- how many states the map has -/
def mapLen (w : World) (b : Nat) : Nat := match w.heap[b]? with | some (.map es _) => es.size | _ => 0
theorem mapS_count {w : World} {b : Nat} {L : List StP} (h : MapS w b L) : mapLen w b = L.length := by
  obtain ⟨es, clock, hb, F, hs, hD⟩ := h
  have : Maps.size (dataS L) = es.size := by rw [hD]; simp [Maps.size, length_sorted]
  rw [dataS_size] at this
  unfold mapLen
  rw [hb]
  exact this.symm
theorem cells_both {w w' : World} {p b g T : Nat} {G : List StP} {dep now last : Int} {x y z u v : Value} (h : Hst w p b G dep now last) (hB : Blk w g T #[x, y, z, u, v]) (hg : w.grownBy w' (some b)) (hne : g ≠ b) :
    (w'.cell? ⟨p, 0, none⟩ = some (.int .i64 dep) ∧ w'.cell? ⟨p, 1, none⟩ = some (.int .i64 now) ∧ w'.cell? ⟨p, 2, none⟩ = some (.int .i64 last) ∧ w'.cell? ⟨p, 3, none⟩ = some (.map (some b))) ∧ w'.cell? ⟨g, 0, none⟩ = some x ∧ w'.cell? ⟨g, 1, none⟩ = some y ∧ w'.cell? ⟨g, 2, none⟩ = some z ∧ w'.cell? ⟨g, 3, none⟩ = some u ∧ w'.cell? ⟨g, 4, none⟩ = some v :=
  ⟨hi_cells (h.blk.tch (Tch.grown hg) (fun e => h.ne e.symm)), ed_cells (hB.tch (Tch.grown hg) hne)⟩
theorem RowG.tch {P : Nat → Prop} {w w' : World} {b : Nat} {A : Option Addr} {xs : List Value} (h : RowG w b A xs) (hc : Tch P w w') (hP : ∀ k, b ≤ k → ¬ P k) : RowG w' b A xs := by
  rcases h with h | ⟨ad, e, hb, hl, hcell⟩
  · exact .inl h
  · refine .inr ⟨ad, e, hb, Nat.lt_of_lt_of_le hl hc.size, fun j u hj => ?_⟩
    rw [← hcell j u hj]
    exact World.cell?_of_block (by rw [add_block]; exact hc.block _ hl (hP _ hb))
/-- an edit copied, among others -/
theorem copy_in {wb : World} {a : Int} {A : Option Addr} {c : Nat} {S : List UInt8} {l : List RunP} {B : Option Addr} {d : Nat} {X : List UInt8} {m : List RunP} (hl : l.length ≤ 1000000) (hm : m.length ≤ 1000000) (hT : ∀ w', Below wb.heap.size wb w' → Txu w' A S l ∧ Txu w' B X m) :
    ∀ w', Below wb.heap.size wb w' → Calls Try.prog 36 #[.agg #[.int .i64 a, .string ⟨S.toArray⟩, .slice A l.length c, .string ⟨X.toArray⟩, .slice B m.length d]] w' fun e w'' => ∃ A' c' B' d', e = .returned (.agg #[.int .i64 a, .string ⟨S.toArray⟩, .slice A' l.length c', .string ⟨X.toArray⟩, .slice B' m.length d']) ∧ Hid (RowG w'' wb.heap.size A' (flatR l) ∧ RowG w'' wb.heap.size B' (flatR m)) ∧ Below wb.heap.size wb w'' := by
  intro w' hb
  obtain ⟨t, x⟩ := hT w' hb
  refine (hiCopied_any A B c d a S l X m hl hm w' t x).mono ?_
  rintro e w'' ⟨A', c', B', d', rfl, r1, r2, bb⟩
  exact ⟨A', c', B', d', rfl, ⟨(r1.less hb.size).rowG, (r2.less hb.size).rowG⟩, hb.trans (bb.mono hb.size)⟩

set_option maxRecDepth 100000 in
set_option maxHeartbeats 8000000 in
theorem hiAdd_any {w : World} {p b : Nat} {G : List StP} {dep now last : Int} (h : Hst w p b G dep now last) (inv : InvS G now last dep) (hd : dep ≤ 64) (hlast : last < 1000000) {a : Int} {S : List UInt8} {A1 : Option Addr} {l : List RunP} {c1 : Nat} {X : List UInt8} {B1 : Option Addr} {m : List RunP} {d : Nat} (hS : Txu w A1 S l) (hX : Txu w B1 X m) (hg : goodE a S l X m = true) (hl : l.length ≤ 1000000) (hm : m.length ≤ 1000000) :
    Calls Try.prog 17 #[.pointer (some ⟨p, 0, none⟩), .agg #[.int .i64 a, .string ⟨S.toArray⟩, .slice A1 l.length c1, .string ⟨X.toArray⟩, .slice B1 m.length d]] w (GivesA w p b G dep now last a S l X m) := by
  have K := Lib.hid ((hst_box h #[.int .i64 a, .string ⟨S.toArray⟩, .slice A1 l.length c1, .string ⟨X.toArray⟩, .slice B1 m.length d] 34).and (((grow_txu hS).and (grow_txu hX)).step ((Below.refl _ w).alloc (Nat.le_refl _) _)))
  have HI := Lib.hid inv
  have HH := Lib.hid h
  have hnow := inv.nowLow
  have hdep := inv.hdep.1
  have hGl := inv.hlen
  have hwp := h.blk.lt
  have hwb := h.map.lt
  clear h hS hX inv
  go_enter Try.func17, Try.ntmps17
  go_upto_region 3 with (go_at_call 31; refine (hiUsable_any K.out.now.1.2.1.blk).mono ?_; rintro e w' ⟨rfl, rfl⟩)
  generalize w.alloc (.cells #[.int .i64 a, .string ⟨S.toArray⟩, .slice A1 l.length c1, .string ⟨X.toArray⟩, .slice B1 m.length d] 34) = wb at *
  obtain ⟨y0, y1, y2, y3, y4⟩ := ed_cells K.out.now.1.1
  go_upto_region 6 with (go_at_call 37; refine (hiGood_any A1 B1 c1 d a S X l m _ K.out.now.2.1 K.out.now.2.2).mono ?_; rw [hg]; rintro e w2 ⟨rfl, bb⟩; have K2 := Lib.hid (K.out.step bb); clear bb y0 y1 y2 y3 y4; obtain ⟨⟨v0, v1, v2, v3⟩, v4, v5, v6, v7⟩ := K2.out.now.1.2.1.var)
  have hlw : w.heap.size < w2.heap.size := K2.out.now.1.1.lt
  have HD := Lib.hid (K2.out.now.1.2.1.setLast (last + 1))
  have BD := Lib.hid (K2.out.now.1.1.far (p := ⟨p, 2, none⟩) (show w.heap.size ≠ p by omega) (.int .i64 (last + 1)))
  have TD := Lib.hid ((Tch.fresh (P := PB p b) K2.out.now.1.2.2).setCell (p := ⟨p, 2, none⟩) (fun _ => Or.inl rfl) (.int .i64 (last + 1)))
  have XD := Lib.hid (And.intro (txu_setH K2.out.now.2.1 K2.out.now.1.2.1.blk 2 (.int .i64 (last + 1))) (txu_setH K2.out.now.2.2 K2.out.now.1.2.1.blk 2 (.int .i64 (last + 1))))
  clear v0 v1 v2 v3 v4 v5 v6 v7 K2 K
  generalize w2.setCell ⟨p, 2, none⟩ (.int .i64 (last + 1)) = wd at *
  have hwd := TD.out.size
  have CP := Lib.hid (copy_in (wb := wd) (a := a) (c := c1) (d := d) hl hm ((grow_txu XD.out.1).and (grow_txu XD.out.2)))
  have hb0 : Below wd.heap.size wd wd := Below.refl _ _
  have S0 := Lib.hid (fun w' (hb : Below wd.heap.size wd w') => And.intro (HD.out.fresh hb).cells (ed_cells (BD.out.below hb BD.out.lt)))
  go_region_held3 (fun w' => (w'.cell? ⟨p, 0, none⟩ = some (.int .i64 dep) ∧ w'.cell? ⟨p, 1, none⟩ = some (.int .i64 now) ∧ w'.cell? ⟨p, 2, none⟩ = some (.int .i64 (last + 1)) ∧ w'.cell? ⟨p, 3, none⟩ = some (.map (some b))) ∧ w'.cell? ⟨w.heap.size, 0, none⟩ = some (.int .i64 a) ∧ w'.cell? ⟨w.heap.size, 1, none⟩ = some (.string ⟨S.toArray⟩) ∧ w'.cell? ⟨w.heap.size, 2, none⟩ = some (.slice A1 l.length c1) ∧ w'.cell? ⟨w.heap.size, 3, none⟩ = some (.string ⟨X.toArray⟩) ∧ w'.cell? ⟨w.heap.size, 4, none⟩ = some (.slice B1 m.length d))
    (first
      | with_reducible exact S0.out _ hbx
      | with_reducible exact S6.out
      | with_reducible exact S0.out _ (belowE_dr hb0)
      | with_reducible exact S0.out _ hb0)
    (first | (go_at_call 36; refine (CP.out _ ?_).mono ?_; (first | with_reducible assumption | with_reducible exact belowE_dr hb0); rintro e w5 ⟨A5, c5, A6, d6, rfl, rows, hbx⟩; obtain ⟨w6, hrun6, hown6, hg6⟩ := World.ownsMap.update (HD.out.fresh hbx).map key_law Try.underlying65 (show G.length < maxLen by have := HI.out.small; unfold maxLen; omega) (key_of (n := last + 1) (by omega)) (show rawV (StP.mk (last + 1) now ⟨a, S, A5, l, c5, X, A6, m, d6⟩).val = _ from rfl); replace hrun6 : (Instr.mapUpdate 65 (.map (some b)) (.int .i64 (last + 1)) (.agg #[.int .i64 now, .int .i64 a, .string ⟨S.toArray⟩, .slice A5 l.length c5, .string ⟨X.toArray⟩, .slice A6 m.length d6])).run Try.prog w5 = .ok () w6 := hrun6; have S6 := Lib.hid (cells_both (HD.out.fresh hbx) (BD.out.below hbx BD.out.lt) hg6 (show w.heap.size ≠ b by omega))))
  have H5 := Lib.hid (HD.out.fresh hbx)
  have hm6 : MapS w6 b (G ++ [⟨last + 1, now, ⟨a, S, A5, l, c5, X, A6, m, d6⟩⟩]) := mapS_of (n := G.length + 1) (by
    rw [← dataS_put_new (s := ⟨last + 1, now, ⟨a, S, A5, l, c5, X, A6, m, d6⟩⟩) (fun x hx => by have := (HI.out.hlow x hx).2; show x.n < last + 1; omega)]
    exact hown6)
  have hpb : ∀ k, wd.heap.size ≤ k → ¬ PB p b k := fun k hk hp => by rcases hp with hp | hp <;> omega
  have H6 : Hst w6 p b (G ++ [⟨last + 1, now, ⟨a, S, A5, l, c5, X, A6, m, d6⟩⟩]) dep now (last + 1) := H5.out.setMap hg6 hm6 (fun s hs => by
    rcases List.mem_append.1 hs with hs | hs
    · exact H5.out.eds s hs
    · rw [List.mem_singleton.1 hs]
      exact ⟨⟨XD.out.1.hS, XD.out.1.hf, XD.out.1.hl, RowO.of_rowG rows.out.1 hpb⟩, ⟨XD.out.2.hS, XD.out.2.hf, XD.out.2.hl, RowO.of_rowG rows.out.2 hpb⟩⟩)
  have hpw : ∀ k, w.heap.size ≤ k → ¬ PB p b k := fun k hk hp => by rcases hp with hp | hp <;> omega
  have R6 := Lib.hid (And.intro ((rows.out.1.less hwd).tch ((Tch.grown hg6).more (fun k (e : k = b) => (Or.inr e : PB p b k))) hpw) ((rows.out.2.less hwd).tch ((Tch.grown hg6).more (fun k (e : k = b) => (Or.inr e : PB p b k))) hpw))
  have T6 := Lib.hid ((TD.out.trans (Tch.fresh hbx)).trans ((Tch.grown hg6).more (fun k (e : k = b) => (Or.inr e : PB p b k))))
  have H7 := Lib.hid (H6.setNow (last + 1))
  have R7 := Lib.hid (And.intro (R6.out.1.tch ((Tch.refl (PB p b) w6).setCell (p := ⟨p, 1, none⟩) (fun _ => Or.inl rfl) (.int .i64 (last + 1))) hpw) (R6.out.2.tch ((Tch.refl (PB p b) w6).setCell (p := ⟨p, 1, none⟩) (fun _ => Or.inl rfl) (.int .i64 (last + 1))) hpw))
  have T7 := Lib.hid (T6.out.setCell (p := ⟨p, 1, none⟩) (fun _ => Or.inl rfl) (.int .i64 (last + 1)))
  obtain ⟨⟨y0, y1, y2, y3⟩, y4, y5, y6, y7⟩ := H6.var
  clear H6 hm6 hown6 hrun6 S6 hg6 hbx rows S0 CP T6 H5 TD BD XD R6
  have hlen : (G ++ [StP.mk (last + 1) now ⟨a, S, A5, l, c5, X, A6, m, d6⟩]).length = G.length + 1 := by simp
  have HM : Hid (InvS (G ++ [StP.mk (last + 1) now ⟨a, S, A5, l, c5, X, A6, m, d6⟩]) (last + 1) (last + 1) (dep + 1)) := HI.out.more rfl rfl hd
  have HPT : Hid (∃ r0 p1 rest, pathS (G ++ [StP.mk (last + 1) now ⟨a, S, A5, l, c5, X, A6, m, d6⟩]) (last + 1) = r0 :: p1 :: rest) :=
    path_two (s := StP.mk (last + 1) now ⟨a, S, A5, l, c5, X, A6, m, d6⟩) HI.out.pos (fun x hx => by have := (HI.out.hlow x hx).2; show x.n ≠ last + 1; omega) (show 0 ≤ last + 1 by omega) hnow.1
  obtain ⟨L, hL⟩ : ∃ L, G ++ [StP.mk (last + 1) now ⟨a, S, A5, l, c5, X, A6, m, d6⟩] = L := ⟨_, rfl⟩
  have HPO : Hid (∀ e w' G', e = Ending.returned (.tuple #[.int .i64 (last + 1), .int .i64 0]) → Hst w' p b G' dep (last + 1) (last + 1) → Tch (PB p b) w w' → AddTo L dep (last + 1) G' → RowG w' w.heap.size A5 (flatR l) → RowG w' w.heap.size A6 (flatR m) → GivesA w p b G dep now last a S l X m e w') :=
    Lib.hid fun e w' G' h1 h2 h3 h4 h5 h6 => ⟨A5, c5, A6, d6, G', h1, h2, h3, by rw [hL]; exact h4, h5, h6⟩
  rw [hL] at H7 hlen HM HPT
  clear hL HI HH
  go_upto_region 8 with fail
  clear y0 y1 y2 y3 y4 y5 y6 y7
  generalize w6.setCell ⟨p, 1, none⟩ (.int .i64 (last + 1)) = wz at *
  go_loopw [] (fun wr => ∃ G', Hst wr p b G' dep (last + 1) (last + 1) ∧ Tch (PB p b) w wr ∧ (RowG wr w.heap.size A5 (flatR l) ∧ RowG wr w.heap.size A6 (flatR m)) ∧ (G' = L ∨ ((G'.length : Int) ≤ dep + 1 ∧ G'.length ≤ 66 ∧ AddTo L dep (last + 1) G'))) (fun wr => mapLen wr b)
  case atStart => exact ⟨L, H7.out, T7.out, R7.out, Or.inl rfl⟩
  case round =>
    obtain ⟨G', h1, h2, hrw, h3⟩ := hrel
    have R8 := Lib.hid hrw
    have H8 := Lib.hid h1
    have T8 := Lib.hid h2
    have hc := mapS_count h1.map
    have hl66 : G'.length ≤ 66 := by
      rcases h3 with rfl | ⟨_, h, _⟩
      · exact HM.out.small
      · exact h
    have H3 := Lib.hid h3
    clear h1 h2 h3 hrw
    obtain ⟨y0, y1, y2, y3⟩ := H8.out.cells
    have hq : ∀ ty, (Builtin.len_ #[65] ty #[.map (some b)]).run Try.prog wr.drew = .ok (.int .i64 G'.length) wr.drew := fun ty => (H8.out.drewN 1).map.len ty
    by_cases hlt : dep < (G'.length : Int) - 1
    · have hGL : G' = L := by
        rcases H3.out with h | ⟨h, _⟩
        · exact h
        · omega
      subst hGL
      obtain ⟨r0, p1, rest, hpath⟩ := HPT.out
      have HPA := Lib.hid hpath
      clear hpath
      go_upto_region 8 with fail
      go_region
      go_wp2_with (go_at_call 38; refine (hiForget_any (H8.out.drewN 1) HM.out (by omega) HPA.out).mono ?_; rintro e w9 ⟨rfl, h9, t9⟩)
      have hf := HM.out.forget (by omega) (by omega) HPA.out
      have hk := hf.hlen
      have hs := hf.small
      have hc9 := mapS_count h9.map
      go_roundw
      case rel => exact ⟨_, h9, (T8.out.drewN 1).trans (t9.more fun _ e => Or.inr e), ⟨(R8.out.1.tch ((Tch.refl (PB p b) wr).drewN 1) hpw).tch (t9.more fun _ e => Or.inr e) hpw, (R8.out.2.tch ((Tch.refl (PB p b) wr).drewN 1) hpw).tch (t9.more fun _ e => Or.inr e) hpw⟩, Or.inr ⟨hk, hs, Or.inr ⟨by omega, r0, p1, rest, HPA.out, rfl⟩⟩⟩
      case measure => rw [hc9, hc]; omega
    · go_upto_region 8 with fail
      go_region
      have HD8 := Lib.hid (H8.out.drewN 1)
      have TD8 := Lib.hid (T8.out.drewN 1)
      go_wp2
      go_ret2
      refine HPO.out _ _ _ rfl HD8.out TD8.out ?_ (R8.out.1.tch ((Tch.refl (PB p b) wr).drewN 1) hpw) (R8.out.2.tch ((Tch.refl (PB p b) wr).drewN 1) hpw)
      rcases H3.out with h | ⟨_, _, h⟩
      · exact Or.inl ⟨by rw [← h]; omega, h⟩
      · exact h
end Go.Proofs.Ytfeaffabminpfaa

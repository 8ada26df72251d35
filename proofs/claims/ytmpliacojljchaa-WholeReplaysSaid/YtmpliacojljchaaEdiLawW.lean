/-
  Edits made one behind the other, and undone from the last one on (over what edit says): layer 7.
-/
import Derived.Test.YtmpliacojljchaaEdiPath
import Derived.Test.YtmpliacojljchaaEdiLawC
import Derived.Deep.CutRange
namespace Go.Proofs.Ytmpliacojljchaa
open Go.RowKit

theorem alive_replays : ofE [97, 98] [(1, 2)] 1 2 [] [] = (⟨1, [98], [(1, 1)], [], []⟩, 0) ∧ (applyE [97, 98] [(1, 2)] 1 [98] [(1, 1)] [] []).2 = 0 ∧ followE 1 [98] [(1, 1)] [] [] 2 = 1 := by
  refine ⟨?_, by decide +kernel, by decide +kernel⟩
  unfold ofE
  rw [show cutOf [97, 98] [(1, 2)] 1 2 = (([98], [(1, 1)]), 0) by decide +kernel, show spliceT [97, 98] [(1, 2)] 1 2 [] [] = (([97], [(1, 1)]), 0) by decide +kernel]
  rfl
theorem grow_cell {wx : World} {p : Addr} {u : Value} (h : wx.cell? p = some u) : Grow wx (fun w' => w'.cell? p = some u) := fun _ hb => (hb.cell (World.block_lt_of_cell? _ _ h)).trans h
theorem grow_row {wx : World} {B : Nat} {A : Option Addr} {xs : List Value} (h : Row wx B A xs) (hB : B ≤ wx.heap.size) : Grow wx (fun w' => Row w' B A xs) := fun _ hb => h.below (hb.mono hB)
theorem knE_one_drew {X w' : World} (hb : Below (X.alloc (.cells #[.int .i64 0, .string ⟨#[]⟩, .slice none 0 0, .string ⟨#[]⟩, .slice none 0 0] 29)).drew.heap.size (X.alloc (.cells #[.int .i64 0, .string ⟨#[]⟩, .slice none 0 0, .string ⟨#[]⟩, .slice none 0 0] 29)).drew w') : Blk w' X.heap.size 29 #[.int .i64 0, .string ⟨#[]⟩, .slice none 0 0, .string ⟨#[]⟩, .slice none 0 0] :=
  (Blk.new X _ _).drew.below hb (by show _ < (X.alloc _).heap.size; simp)
/-- an edit's variable of the call's own, known and free -/
def KnE (w : World) (k : Nat) : Prop := (w.cell? ⟨k, 0, none⟩ = some (.int .i64 0) ∧ w.cell? ⟨k, 1, none⟩ = some (.string ⟨#[]⟩) ∧ w.cell? ⟨k, 2, none⟩ = some (.slice none 0 0) ∧ w.cell? ⟨k, 3, none⟩ = some (.string ⟨#[]⟩) ∧ w.cell? ⟨k, 4, none⟩ = some (.slice none 0 0)) ∧
  (w.frozen? ⟨k, 0, none⟩ = false ∧ w.frozen? ⟨k, 1, none⟩ = false ∧ w.frozen? ⟨k, 2, none⟩ = false ∧ w.frozen? ⟨k, 3, none⟩ = false ∧ w.frozen? ⟨k, 4, none⟩ = false) ∧ k < w.heap.size
theorem knE_of {w : World} {k : Nat} (h : Blk w k 29 #[.int .i64 0, .string ⟨#[]⟩, .slice none 0 0, .string ⟨#[]⟩, .slice none 0 0]) : KnE w k := ⟨ed_cells h, ed_frozen h, h.lt⟩
/-- the edit of a place, among other calls -/
theorem of_in {wb : World} {A A2 : Option Addr} {c d : Nat} {S : List UInt8} {l : List RunP} {f t : Int} {X : List UInt8} {m : List RunP} {p : EdP × Nat} (hp : ofE S l f t X m = p) (hm : m.length ≤ 1000000) (hT : ∀ w', Below wb.heap.size wb w' → Txu w' A S l ∧ Txu w' A2 X m) :
    ∀ w', Below wb.heap.size wb w' → Calls Try.prog 11 #[.agg #[.string ⟨S.toArray⟩, .slice A l.length c], .int .i64 f, .int .i64 t, .agg #[.string ⟨X.toArray⟩, .slice A2 m.length d]] w' fun e w'' => ∃ B k B2 k2, e = .returned (.tuple #[.agg #[.int .i64 p.1.a, .string ⟨p.1.S.toArray⟩, .slice B p.1.l.length k, .string ⟨p.1.X.toArray⟩, .slice B2 p.1.m.length k2], .int .i64 (p.2 : Nat)]) ∧
      Hid (RowG w'' w'.heap.size B (flatR p.1.l) ∧ RowG w'' w'.heap.size B2 (flatR p.1.m)) ∧ Below wb.heap.size wb w'' ∧ Below w'.heap.size w' w'' := by
  intro w' hb
  refine (ediOf_new A A2 c d S l f t X m hm w' (hT w' hb).1 (hT w' hb).2).mono ?_
  rw [hp]
  rintro e w'' ⟨B, k, B2, k2, rfl, r1, r2, bb⟩
  exact ⟨B, k, B2, k2, rfl, ⟨r1, r2⟩, hb.trans (bb.mono hb.size), bb⟩
theorem follow_in {wb : World} {A A2 : Option Addr} {c d : Nat} {a : Int} {S : List UInt8} {l : List RunP} {X : List UInt8} {m : List RunP} {p q : Int} (hp : -9223372036854775808 ≤ p ∧ p ≤ 9223372036854775807) (hq : followE a S l X m p = q) (hT : ∀ w', Below wb.heap.size wb w' → Txu w' A S l ∧ Txu w' A2 X m) :
    ∀ w', Below wb.heap.size wb w' → Calls Try.prog 17 #[.agg #[.int .i64 a, .string ⟨S.toArray⟩, .slice A l.length c, .string ⟨X.toArray⟩, .slice A2 m.length d], .int .i64 p] w' fun e w'' => e = .returned (.int .i64 q) ∧ Below wb.heap.size wb w'' := by
  intro w' hb
  refine (ediFollow_any A A2 c d a S l X m p hp w' (hT w' hb).1 (hT w' hb).2).mono ?_
  rw [hq]
  rintro e w'' ⟨rfl, bb⟩
  exact ⟨rfl, hb.trans (bb.mono hb.size)⟩

set_option maxRecDepth 100000 in
set_option maxHeartbeats 8000000 in
theorem wholeReplays_walk (w : World) (A : Option Addr) (c : Nat) (S : List UInt8) (l : List RunP) (h : Txt w w.heap.size A S l) (A2 : Option Addr) (c2 : Nat) (pus : List PutP) (_hlen : pus.length ≤ maxLen) (hT : ∀ e ∈ pus, PutOk w e) (row : Row w w.heap.size A2 (flatU pus)) :
    Calls Try.prog 8 #[.agg #[.string ⟨S.toArray⟩, .slice A l.length c], .slice A2 pus.length c2] w fun e w' => e = .returned (.bool true) ∧ Below w.heap.size w w' := by
  have HA := Lib.hid alive_replays
  have L := Lib.hid h
  have PT := Lib.hid hT
  have hlen := _hlen
  unfold maxLen at hlen
  have G0 : Fits [(1, 2)] := by intro r hr; simp at hr; subst hr; simp
  have G1 : Hid (Fits [(1, 1)]) := by intro r hr; simp at hr; subst hr; simp
  have K : Hid (Grow (((w.alloc (.cells #[.string ⟨S.toArray⟩, .slice A l.length c] 24)).alloc (.cells #[.int .u64 1, .int .i64 2] 57)).alloc (.cells #[.string ⟨#[97, 98]⟩, .slice (some ⟨w.heap.size + 1, 0, none⟩) 1 1] 24)) (fun w' => Blk w' (w.heap.size + 1 + 1) 24 #[.string ⟨#[97, 98]⟩, .slice (some ⟨w.heap.size + 1, 0, none⟩) 1 1] ∧ Txu w' (some ⟨w.heap.size + 1, 0, none⟩) [97, 98] [(1, 2)] ∧ Blk w' w.heap.size 24 #[.string ⟨S.toArray⟩, .slice A l.length c] ∧ Below w.heap.size w w' ∧ Txt w' w.heap.size A S l ∧ Row w' w.heap.size A2 (flatU pus))) := by
    have e1 : (w.alloc (.cells #[.string ⟨S.toArray⟩, .slice A l.length c] 24)).heap.size = w.heap.size + 1 := by simp
    have e2 : ((w.alloc (.cells #[.string ⟨S.toArray⟩, .slice A l.length c] 24)).alloc (.cells #[.int .u64 1, .int .i64 2] 57)).heap.size = w.heap.size + 1 + 1 := by simp
    have b : Below w.heap.size w (w.alloc (.cells #[.string ⟨S.toArray⟩, .slice A l.length c] 24)) := (Below.refl _ w).alloc (Nat.le_refl _) _
    have k1 := blk_box ((w.alloc (.cells #[.string ⟨S.toArray⟩, .slice A l.length c] 24)).alloc (.cells #[.int .u64 1, .int .i64 2] 57)) (T := 24) (cs := #[.string ⟨#[97, 98]⟩, .slice (some ⟨w.heap.size + 1, 0, none⟩) 1 1])
    rw [e2] at k1
    have k2 := txu_new (w.alloc (.cells #[.string ⟨S.toArray⟩, .slice A l.length c] 24)) [97, 98] [(1, 2)] (by simp) (by simp) G0
    rw [e1] at k2
    exact k1.and (((grow_txu k2).alloc _).and ((((blk_box w).alloc _).alloc _).and ((((grow_bel b).alloc _).alloc _).and (((((grow_txt h).alloc _).alloc _).alloc _).and ((((grow_row row (Nat.le_refl _)).alloc _).alloc _).alloc _)))))
  clear G0 h hT row
  go_enter Try.func8, Try.ntmps8
  go_wp2_with fail
  refine (ediOf_any (some ⟨w.heap.size + 1, 0, none⟩) none 1 0 [97, 98] [(1, 2)] 1 2 [] [] (by simp) _ K.out.now.2.1 (txu_nil _)).mono ?_
  rw [HA.out.1]
  rintro e w1 ⟨A1, c1, A3, c3, rfl, r1, r2, bb⟩
  dsimp only at r1 r2 ⊢
  have K1 : Hid (Grow (w1.alloc (.cells #[.int .i64 1, .string ⟨#[98]⟩, .slice A1 1 c1, .string ⟨#[]⟩, .slice A3 0 c3] 29)) (fun w' => (Blk w' w1.heap.size 29 #[.int .i64 1, .string ⟨#[98]⟩, .slice A1 1 c1, .string ⟨#[]⟩, .slice A3 0 c3] ∧ Txu w' A1 [98] [(1, 1)] ∧ Txu w' A3 [] []) ∧ Blk w' (w.heap.size + 1 + 1) 24 #[.string ⟨#[97, 98]⟩, .slice (some ⟨w.heap.size + 1, 0, none⟩) 1 1] ∧ Txu w' (some ⟨w.heap.size + 1, 0, none⟩) [97, 98] [(1, 2)] ∧ Blk w' w.heap.size 24 #[.string ⟨S.toArray⟩, .slice A l.length c] ∧ Below w.heap.size w w' ∧ Txt w' w.heap.size A S l ∧ Row w' w.heap.size A2 (flatU pus))) :=
    (K.out.step bb).evar (a := 1) (V := [98]) (r := [(1, 1)]) (X := []) (m := []) (c := c1) (d := c3) (txt_small r1 (by simp) (by simp) G1.out) (txt_small r2 (by simp) (by simp) (fun r hr => by simp at hr))
  replace K := K1
  clear K1 bb r1 r2
  obtain ⟨y0, y1⟩ := txt_cells K.out.now.2.1
  obtain ⟨u0, u1, u2, u3, u4⟩ := ed_cells K.out.now.1.1
  by_cases hfit : S.length ≤ 5000 ∧ l.length ≤ 5000
  · by_cases hg : goodT S l = true
    · have H1 := Lib.hid (decide_eq_true hfit)
      clear hfit
      go_wp2_with (first
        | (go_at_call 25; refine (ediCheck_any (some ⟨w.heap.size + 1, 0, none⟩) A1 A3 1 c1 c3 [97, 98] [(1, 2)] 1 [98] [(1, 1)] [] [] _ K.out.now.2.2.1 K.out.now.1.2.1 K.out.now.1.2.2).mono ?_; rw [HA.out.2.1]; rintro e w4 ⟨rfl, bb⟩; replace K := Lib.hid (K.out.step bb); clear bb y0 y1 u0 u1 u2 u3 u4; obtain ⟨u0, u1, u2, u3, u4⟩ := ed_cells K.out.now.1.1; obtain ⟨x0, x1⟩ := txt_cells K.out.now.2.2.2.1)
        | (go_at_call 17; refine (ediFollow_any A1 A3 c1 c3 1 [98] [(1, 1)] [] [] 2 (by omega) _ K.out.now.1.2.1 K.out.now.1.2.2).mono ?_; rw [HA.out.2.2]; rintro e w5 ⟨rfl, bb⟩; replace K := Lib.hid (K.out.step bb); clear bb x0 x1 u0 u1 u2 u3 u4; obtain ⟨x0, x1⟩ := txt_cells K.out.now.2.2.2.1)
        | (go_at_call 10; refine (lawFits_any S L.out.hS l L.out.hl A c _).mono ?_; rw [H1.out]; rintro e w6 ⟨rfl, bb⟩; replace K := Lib.hid (K.out.step bb); clear bb x0 x1; obtain ⟨x0, x1⟩ := txt_cells K.out.now.2.2.2.1)
        | (go_at_call 26; refine (refTGood_any A c _ S l _ (K.out.now.2.2.2.2.1.size) K.out.now.2.2.2.2.2.1).mono ?_; rw [hg]; rintro e w7 ⟨rfl, bb⟩; replace K := Lib.hid (K.out.step bb); clear bb x0 x1; obtain ⟨x0, x1⟩ := txt_cells K.out.now.2.2.2.1))
      have KW : Hid (∀ w', Below w7.heap.size w7 w' → Blk w' w.heap.size 24 #[.string ⟨S.toArray⟩, .slice A l.length c] ∧ Below w.heap.size w w' ∧ Txt w' w.heap.size A S l ∧ Row w' w.heap.size A2 (flatU pus)) := fun w' hb => (K.out w' hb).2.2.2
      have zlt : w.heap.size < w7.heap.size := K.out.now.2.2.2.1.lt
      have TT0 := Lib.hid ((Below.refl w7.heap.size w7).alloc (Nat.le_refl _) (.cells #[.string ⟨S.toArray⟩, .slice A l.length c] 24))
      clear K x0 x1 HA G1 H1
      go_loopw [9, 10] (fun v i wr => ∃ (k : Nat) (ds : List DoneP) (V : List UInt8) (r : List RunP) (A8 : Option Addr) (c8 : Nat), k ≤ pus.length ∧ k ≤ 30 ∧ i = .int .i64 k ∧ ds.length ≤ k ∧ RepK w7 w7.heap.size (w7.heap.size + 1) S l wr v ds ds V r A8 c8) (fun _ i _ => 30 - (intOf i).toNat)
      case atStart => exact ⟨0, [], S, l, A, c, Nat.zero_le _, Nat.zero_le _, rfl, Nat.le_refl _, ⟨World.ownsRow_nil _ _ _ _, Blk.new _ _ _, TxQ.old (KW.out _ TT0.out).2.2.1 (by simp; omega) (by omega) rfl, fun e he => by simp at he, .nil, TT0.out⟩⟩
      case round =>
        obtain ⟨k, ds, V, r, A8, c8, hk1, hk2, rfl, hds, HK⟩ := hrel
        obtain ⟨Av, cv, rfl⟩ := own_form HK.own
        have H := Lib.hid HK
        clear HK TT0
        by_cases hlt : k < pus.length ∧ k < 30
        · obtain ⟨hlt, hlt2⟩ := hlt
          obtain ⟨ad, rfl, hbl, d0, d1, d2, d3⟩ := put_at (KW.out wr H.out.bl).2.2.2 hlt
          have PK := Lib.hid (PT.out pus[k] (List.getElem_mem hlt))
          generalize pus[k] = e at *
          obtain ⟨f, t, X, Ax, cx, m⟩ := e
          dsimp only at d0 d1 d2 d3
          have XT : Hid (Txt w w.heap.size Ax X m) := PK.out.txt
          have K : Hid (Grow wr (fun w' => RepK w7 w7.heap.size (w7.heap.size + 1) S l w' (.slice Av ds.length cv) ds ds V r A8 c8 ∧ Txu w' Ax X m ∧ w'.cell? (ad.add (k * 4)) = some (.int .i64 f) ∧ w'.cell? ⟨(ad.add (k * 4)).block, (ad.add (k * 4)).off + 1, none⟩ = some (.int .i64 t) ∧ w'.cell? ⟨(ad.add (k * 4)).block, (ad.add (k * 4)).off + 2, none⟩ = some (.string ⟨X.toArray⟩) ∧ w'.cell? ⟨(ad.add (k * 4)).block, (ad.add (k * 4)).off + 3, none⟩ = some (.slice Ax m.length cx))) :=
            (grow_rep H.out).and (Grow.and (fun w' hb => (XT.out.below (KW.out w' (H.out.step hb).bl).2.1).more (KW.out w' (H.out.step hb).bl).2.1.size) ((grow_cell d0).and ((grow_cell d1).and ((grow_cell d2).and (grow_cell d3)))))
          clear PK
          by_cases hfit : X.length ≤ 5000 ∧ m.length ≤ 5000
          · have H1 := Lib.hid (decide_eq_true hfit)
            have hm5 : m.length ≤ 5000 := hfit.2
            clear hfit
            obtain ⟨p, hp⟩ : ∃ p, ofE V r f t X m = p := ⟨_, rfl⟩
            have HOK : Hid (OkE p.1) := by show OkE _; rw [← hp]; exact okE_of ⟨H.out.txt.hS, H.out.txt.hf, H.out.txt.hl⟩ ⟨XT.out.hS, XT.out.hf, XT.out.hl⟩ f t
            have HRL : Hid (p.1.l.length ≤ 1000000 ∧ p.1.m.length ≤ 1000000) := by show _ ∧ _; rw [← hp]; exact okE_runs (by have := (decide_eq_true_iff (p := X.length ≤ 5000 ∧ m.length ≤ 5000)).1 H1.out; exact this) f t
            have HP := Lib.hid hp
            clear hp
            obtain ⟨⟨a, U, q, X2, m2⟩, n⟩ := p
            dsimp only at HRL HOK
            go_upto_region 13 with (go_at_call 10; refine (lawFits_any X XT.out.hS m XT.out.hl Ax cx _).mono ?_; rw [H1.out]; rintro e w8 ⟨rfl, bb⟩; replace K := Lib.hid (K.out.step bb); clear bb d0 d1 d2 d3)
            have Z8 : Hid (w7.heap.size < w8.heap.size ∧ ∀ k, (Value.slice Av ds.length cv).ownBlock = some k → k < w8.heap.size) := ⟨K.out.now.1.now.lt, K.out.now.1.own_lt⟩
            have TO := Lib.hid (of_in (wb := w8) (A := A8) (A2 := Ax) (c := c8) (d := cx) HP.out (by omega) (fun w' hb => ⟨(K.out w' hb).1.txt.txu, (K.out w' hb).2.1⟩))
            dsimp only at TO
            have KB := Lib.hid (fun w' hb => And.intro (And.intro (txt_cells (K.out w' hb).1.now) (K.out w' hb).2.2) hb)
            have hb0 : Below w8.heap.size w8 w8 := Below.refl _ _
            go_cut [11, 12] (fun s11 s12 wx => ∃ (g : Nat) (B1 : Option Addr) (k1 : Nat) (B2 : Option Addr) (k2 : Nat), s11 = .pointer (some ⟨g, 0, none⟩) ∧ s12 = .int .i64 n ∧ w8.heap.size ≤ g ∧ Below w8.heap.size w8 wx ∧ Blk wx g 29 #[.int .i64 a, .string ⟨U.toArray⟩, .slice B1 q.length k1, .string ⟨X2.toArray⟩, .slice B2 m2.length k2] ∧ RowG wx w8.heap.size B1 (flatR q) ∧ RowG wx w8.heap.size B2 (flatR m2))
            case first =>
              go_region_held3 (fun w' => ((w'.cell? ⟨w7.heap.size, 0, none⟩ = some (.string ⟨V.toArray⟩) ∧ w'.cell? ⟨w7.heap.size, 1, none⟩ = some (.slice A8 r.length c8)) ∧ w'.cell? (ad.add (k * 4)) = some (.int .i64 f) ∧ w'.cell? ⟨(ad.add (k * 4)).block, (ad.add (k * 4)).off + 1, none⟩ = some (.int .i64 t) ∧ w'.cell? ⟨(ad.add (k * 4)).block, (ad.add (k * 4)).off + 2, none⟩ = some (.string ⟨X.toArray⟩) ∧ w'.cell? ⟨(ad.add (k * 4)).block, (ad.add (k * 4)).off + 3, none⟩ = some (.slice Ax m.length cx)) ∧ Below w8.heap.size w8 w')
                (first | (refine KB.out _ ?_; (repeat (first | assumption | refine belowT_dr ?_ | refine belowT_al ?_ (Nat.le_refl _) | (refine Below.setCell ?_ ?_ _; rotate_left; (first | focus (simp; done) | focus (simp; omega))))); done))
                (first
                  | (go_at_call 11; refine (TO.out _ ?_).mono ?_; (repeat (first | assumption | refine belowT_dr ?_ | refine belowT_al ?_ (Nat.le_refl _))); rintro e w9 ⟨B1, k1, B2, k2, rfl, rr, hbx, hby⟩; have hzy := hby.size; have hzx := hbx.size; first | (refine use_factT (knE_one_drew hby) ?_; intro a1; obtain ⟨⟨b1, b2, b3, b4, b5⟩, ⟨b6, b7, b8, b9, b10⟩, b11⟩ := knE_of a1; have AV := Lib.hid a1; clear a1) | skip))
              all_goals go_wp2_with fail
              all_goals go_meet
              all_goals
                refine ⟨_, B1, k1, B2, k2, rfl, rfl, ?_, ?_, ?_, ?_, ?_⟩
                · first | exact Nat.le_refl _ | exact hzx
                · repeat (first | assumption | refine belowT_dr ?_ | refine belowT_al ?_ (Nat.le_refl _) | (refine Below.setCell ?_ ?_ _; rotate_left; (first | focus (simp; done) | focus (simp; omega))))
                · first | with_reducible exact Blk.new _ _ _ | exact blk_five AV.out _ _ _ _ _
                · first | with_reducible exact ((grow_rowG (RowG.less rr.out.1 (show w8.heap.size ≤ w8.drew.heap.size from Nat.le_refl _))).alloc _).now | exact (RowG.five rr.out.1 (by show _ < (w8.alloc _).heap.size; simp) _ _ _ _ _).less (by show _ ≤ (w8.alloc _).heap.size; simp)
                · first | with_reducible exact ((grow_rowG (RowG.less rr.out.2 (show w8.heap.size ≤ w8.drew.heap.size from Nat.le_refl _))).alloc _).now | exact (RowG.five rr.out.2 (by show _ < (w8.alloc _).heap.size; simp) _ _ _ _ _).less (by show _ ≤ (w8.alloc _).heap.size; simp)
            case rest =>
              obtain ⟨g11, B1, k1, B2, k2, rfl, rfl, hg11, hbc, n1, ra, rb⟩ := hcut
              have q1 := HOK.out.1 wc B1 ra.row
              have q2 := HOK.out.2 wc B2 rb.row
              replace K := Lib.hid ((K.out.step hbc).and ((grow_blk n1).and ((grow_txq (TxQ.new q1.hS q1.hf q1.hl ra Z8.out.1 Z8.out.2)).and (grow_txq (TxQ.new q2.hS q2.hf q2.hl rb Z8.out.1 Z8.out.2)))))
              have Z9 : Hid (w7.heap.size < g11) := Nat.lt_of_lt_of_le Z8.out.1 hg11
              clear n1 ra rb q1 q2 hbc KB TO hb0 hg11
              by_cases hn : n = 0
              · subst hn
                have E1 := Lib.hid (of_apply HP.out)
                obtain ⟨p3, hp3⟩ : ∃ p, spliceT V r f t X m = p := ⟨_, rfl⟩
                have O3 : Hid (OkT p3) := by show OkT _; rw [← hp3]; exact okT_splice K.out.now.1.1.txt.hf XT.out.hf f t
                obtain ⟨⟨V2, r2⟩, n3⟩ := p3
                obtain rfl : n3 = 0 := by have e := E1.out.2.2.2.2.2; rw [hp3] at e; exact e
                have P3 : Hid (applyE V r a U q X2 m2 = ((V2, r2), 0)) := E1.out.2.2.2.2.1.trans hp3
                clear hp3 E1 HP
                have FE := Lib.hid (follow_end P3.out)
                obtain ⟨y0, y1⟩ := txt_cells K.out.now.1.1.now
                obtain ⟨u0, u1, u2, u3, u4⟩ := ed_cells K.out.now.2.1
                go_upto_region 16 with (go_at_call 20; refine (ediApply_any A8 B1 B2 c8 k1 k2 V r a U q X2 m2 _ K.out.now.1.1.txt.txu K.out.now.2.2.1.txu K.out.now.2.2.2.txu).mono ?_; rw [P3.out]; rintro e w9 ⟨A9, c9, rfl, own, bb⟩; dsimp only at own ⊢; have z := K.out.now.1.1.now.lt; have zo := K.out.now.1.1.own_lt; replace K := Lib.hid ((blk_box w9).and (((grow_txq (TxQ.new O3.out.txt0.1 O3.out.txt0.2.1 O3.out.txt0.2.2 (rowG_own own) z zo)).and (K.out.step bb)).alloc (.cells #[.string ⟨V2.toArray⟩, .slice A9 r2.length c9] 24))); clear y0 y1 u0 u1 u2 u3 u4 own bb z zo)
                generalize w9.alloc (.cells #[.string ⟨V2.toArray⟩, .slice A9 r2.length c9] 24) = wb at *
                generalize w9.heap.size = g13 at *
                have hV : (V.length : Int) ≤ 4096 := by have := FE.out.2.1; omega
                have hV2 : (V2.length : Int) ≤ 4096 := by have := FE.out.2.2.1; omega
                have T0 := Lib.hid (follow_in (wb := wb) (A := B1) (A2 := B2) (c := k1) (d := k2) (by omega) (follow_zero FE.out.1) (fun w' hb => ⟨(K.out w' hb).2.2.2.2.1.txu, (K.out w' hb).2.2.2.2.2.txu⟩))
                have KB := Lib.hid (fun w' hb => And.intro (ed_cells (K.out w' hb).2.2.2.1) (And.intro (txt_cells (K.out w' hb).2.2.1.1.now).1 (txt_cells (K.out w' hb).1).1))
                go_cut [119] (fun s119 wx => s119 = .bool false ∧ Below wb.heap.size wb wx)
                case first =>
                  by_cases hq : followE a U q X2 m2 (V.length : Nat) = (V2.length : Nat)
                  · have T1 := Lib.hid (follow_in (wb := wb) (A := B1) (A2 := B2) (c := k1) (d := k2) (by omega) hq (fun w' hb => ⟨(K.out w' hb).2.2.2.2.1.txu, (K.out w' hb).2.2.2.2.2.txu⟩))
                    clear hq
                    have BY : Hid (Below wb.heap.size wb wb.drew) := below_drewN (Below.refl _ wb) 1
                    refine wp_region_held_drew (S := fun w' => ((w'.cell? ⟨g11, 0, none⟩ = some (.int .i64 a) ∧ w'.cell? ⟨g11, 1, none⟩ = some (.string ⟨U.toArray⟩) ∧ w'.cell? ⟨g11, 2, none⟩ = some (.slice B1 q.length k1) ∧ w'.cell? ⟨g11, 3, none⟩ = some (.string ⟨X2.toArray⟩) ∧ w'.cell? ⟨g11, 4, none⟩ = some (.slice B2 m2.length k2)) ∧ w'.cell? ⟨w7.heap.size, 0, none⟩ = some (.string ⟨V.toArray⟩) ∧ w'.cell? ⟨g13, 0, none⟩ = some (.string ⟨V2.toArray⟩))) (by kernel_rfl) (KB.out _ BY.out) (fun hHeld => ?_)
                    refine wpAnyH_take (i := 0) (v := ?_) rfl (by kernel_rfl) (by kernel_rfl) (by kernel_rfl) (fun _ _ _ h => h) (Or.inl ⟨by rfl, ?_⟩) (by assumption) ?_
                    rotate_left
                    · (intro w hSw; (try dsimp only at hSw); go_simp; (try with_reducible rfl))
                    try simp only [List.getElem_toArray, List.getElem_cons_zero, Act.put, List.setIfInBounds_toArray, List.set_cons_zero, List.set_cons_succ]
                    refine wpAnyH_take (i := 1) (v := ?_) rfl (by kernel_rfl) (by kernel_rfl) (by kernel_rfl) (fun _ _ _ h => h) (Or.inl ⟨by rfl, ?_⟩) (by assumption) ?_
                    rotate_left
                    · (intro w hSw; (try dsimp only at hSw); go_simp; (try with_reducible rfl))
                    try simp only [List.getElem_toArray, List.getElem_cons_zero, List.getElem_cons_succ, Act.put, List.setIfInBounds_toArray, List.set_cons_zero, List.set_cons_succ]
                    refine wpAnyH_take (i := 2) (v := ?_) rfl (by kernel_rfl) (by kernel_rfl) (by kernel_rfl) (fun _ _ _ h => h) (Or.inl ⟨by rfl, ?_⟩) (by assumption) ?_
                    rotate_left
                    · (intro w hSw; (try dsimp only at hSw); go_simp; (try with_reducible rfl))
                    try simp only [List.getElem_toArray, List.getElem_cons_zero, List.getElem_cons_succ, Act.put, List.setIfInBounds_toArray, List.set_cons_zero, List.set_cons_succ]
                    refine wpAnyH_take (i := 3) (v := ?_) rfl (by kernel_rfl) (by kernel_rfl) (by kernel_rfl) (fun _ _ _ h => h) (Or.inl ⟨by rfl, ?_⟩) (by assumption) ?_
                    rotate_left
                    · (intro w hSw; (try dsimp only at hSw); go_simp; (try with_reducible rfl))
                    try simp only [List.getElem_toArray, List.getElem_cons_zero, List.getElem_cons_succ, Act.put, List.setIfInBounds_toArray, List.set_cons_zero, List.set_cons_succ]
                    refine wpAnyH_ready (rs := [4]) (by kernel_rfl) (by simp) ?_
                    refine AllReadyH.cons rfl (fun K hK => ?_) AllReadyH.nil
                    go_simp
                    (go_at_call 17; refine (T0.out _ BY.out).mono ?_; rintro e wx ⟨rfl, bx⟩; have BY : Hid (Below wb.heap.size wb wx) := bx; clear bx)
                    try go_wp2_with fail
                    refine hK.out _ _ (KB.out _ BY.out) (fun hHeld => ?_)
                    clear hK K
                    try simp only [List.getElem_toArray, List.getElem_cons_zero, List.getElem_cons_succ, Act.put, List.setIfInBounds_toArray, List.set_cons_zero, List.set_cons_succ]
                    refine wpAnyH_take (i := 5) (v := ?_) rfl (by kernel_rfl) (by kernel_rfl) (by kernel_rfl) (fun _ _ _ h => h) (Or.inl ⟨by rfl, ?_⟩) (by assumption) ?_
                    rotate_left
                    · (intro w hSw; (try dsimp only at hSw); go_simp; (try with_reducible rfl))
                    try simp only [List.getElem_toArray, List.getElem_cons_zero, List.getElem_cons_succ, Act.put, List.setIfInBounds_toArray, List.set_cons_zero, List.set_cons_succ]
                    refine wpAnyH_take (i := 6) (v := ?_) rfl (by kernel_rfl) (by kernel_rfl) (by kernel_rfl) (fun _ _ _ h => h) (Or.inl ⟨by rfl, ?_⟩) (by assumption) ?_
                    rotate_left
                    · (intro w hSw; (try dsimp only at hSw); go_simp; (try with_reducible rfl))
                    try simp only [List.getElem_toArray, List.getElem_cons_zero, List.getElem_cons_succ, Act.put, List.setIfInBounds_toArray, List.set_cons_zero, List.set_cons_succ]
                    refine wpAnyH_take (i := 7) (v := ?_) rfl (by kernel_rfl) (by kernel_rfl) (by kernel_rfl) (fun _ _ _ h => h) (Or.inl ⟨by rfl, ?_⟩) (by assumption) ?_
                    rotate_left
                    · (intro w hSw; (try dsimp only at hSw); go_simp; (try with_reducible rfl))
                    try simp only [List.getElem_toArray, List.getElem_cons_zero, List.getElem_cons_succ, Act.put, List.setIfInBounds_toArray, List.set_cons_zero, List.set_cons_succ]
                    refine wpAnyH_take (i := 8) (v := ?_) rfl (by kernel_rfl) (by kernel_rfl) (by kernel_rfl) (fun _ _ _ h => h) (Or.inl ⟨by rfl, ?_⟩) (by assumption) ?_
                    rotate_left
                    · (intro w hSw; (try dsimp only at hSw); go_simp; (try with_reducible rfl))
                    try simp only [List.getElem_toArray, List.getElem_cons_zero, List.getElem_cons_succ, Act.put, List.setIfInBounds_toArray, List.set_cons_zero, List.set_cons_succ]
                    refine wpAnyH_take (i := 9) (v := ?_) rfl (by kernel_rfl) (by kernel_rfl) (by kernel_rfl) (fun _ _ _ h => h) (Or.inl ⟨by rfl, ?_⟩) (by assumption) ?_
                    rotate_left
                    · (intro w hSw; (try dsimp only at hSw); go_simp; (try with_reducible rfl))
                    try simp only [List.getElem_toArray, List.getElem_cons_zero, List.getElem_cons_succ, Act.put, List.setIfInBounds_toArray, List.set_cons_zero, List.set_cons_succ]
                    refine wpAnyH_take (i := 10) (v := ?_) rfl (by kernel_rfl) (by kernel_rfl) (by kernel_rfl) (fun _ _ _ h => h) (Or.inl ⟨by rfl, ?_⟩) (by assumption) ?_
                    rotate_left
                    · (intro w hSw; (try dsimp only at hSw); go_simp; (try with_reducible rfl))
                    try simp only [List.getElem_toArray, List.getElem_cons_zero, List.getElem_cons_succ, Act.put, List.setIfInBounds_toArray, List.set_cons_zero, List.set_cons_succ]
                    refine wpAnyH_take (i := 11) (v := ?_) rfl (by kernel_rfl) (by kernel_rfl) (by kernel_rfl) (fun _ _ _ h => h) (Or.inl ⟨by rfl, ?_⟩) (by assumption) ?_
                    rotate_left
                    · (intro w hSw; (try dsimp only at hSw); go_simp; (try with_reducible rfl))
                    try simp only [List.getElem_toArray, List.getElem_cons_zero, List.getElem_cons_succ, Act.put, List.setIfInBounds_toArray, List.set_cons_zero, List.set_cons_succ]
                    refine wpAnyH_take (i := 13) (v := ?_) rfl (by kernel_rfl) (by kernel_rfl) (by kernel_rfl) (fun _ _ _ h => h) (Or.inl ⟨by rfl, ?_⟩) (by assumption) ?_
                    rotate_left
                    · (intro w hSw; (try dsimp only at hSw); go_simp; (try with_reducible rfl))
                    try simp only [List.getElem_toArray, List.getElem_cons_zero, List.getElem_cons_succ, Act.put, List.setIfInBounds_toArray, List.set_cons_zero, List.set_cons_succ]
                    refine wpAnyH_take (i := 14) (v := ?_) rfl (by kernel_rfl) (by kernel_rfl) (by kernel_rfl) (fun _ _ _ h => h) (Or.inl ⟨by rfl, ?_⟩) (by assumption) ?_
                    rotate_left
                    · (intro w hSw; (try dsimp only at hSw); go_simp; (try with_reducible rfl))
                    try simp only [List.getElem_toArray, List.getElem_cons_zero, List.getElem_cons_succ, Act.put, List.setIfInBounds_toArray, List.set_cons_zero, List.set_cons_succ]
                    refine wpAnyH_take (i := 15) (v := ?_) rfl (by kernel_rfl) (by kernel_rfl) (by kernel_rfl) (fun _ _ _ h => h) (Or.inl ⟨by rfl, ?_⟩) (by assumption) ?_
                    rotate_left
                    · (intro w hSw; (try dsimp only at hSw); go_simp; (try with_reducible rfl))
                    try simp only [List.getElem_toArray, List.getElem_cons_zero, List.getElem_cons_succ, Act.put, List.setIfInBounds_toArray, List.set_cons_zero, List.set_cons_succ]
                    refine wpAnyH_ready (rs := [12]) (by kernel_rfl) (by simp) ?_
                    refine AllReadyH.cons rfl (fun K hK => ?_) AllReadyH.nil
                    go_simp
                    (go_at_call 17; refine (T1.out _ BY.out).mono ?_; rintro e wx ⟨rfl, bx⟩; have BY : Hid (Below wb.heap.size wb wx) := bx; clear bx)
                    try go_wp2_with fail
                    refine hK.out _ _ (KB.out _ BY.out) (fun hHeld => ?_)
                    clear hK K
                    try simp only [List.getElem_toArray, List.getElem_cons_zero, List.getElem_cons_succ, Act.put, List.setIfInBounds_toArray, List.set_cons_zero, List.set_cons_succ]
                    refine wpAnyH_take (i := 16) (v := ?_) rfl (by kernel_rfl) (by kernel_rfl) (by kernel_rfl) (fun _ _ _ h => h) (Or.inl ⟨by rfl, ?_⟩) (by assumption) ?_
                    rotate_left
                    · (intro w hSw; (try dsimp only at hSw); go_simp; (try with_reducible rfl))
                    try simp only [List.getElem_toArray, List.getElem_cons_zero, List.getElem_cons_succ, Act.put, List.setIfInBounds_toArray, List.set_cons_zero, List.set_cons_succ]
                    refine wpAnyH_take (i := 17) (v := ?_) rfl (by kernel_rfl) (by kernel_rfl) (by kernel_rfl) (fun _ _ _ h => h) (Or.inl ⟨by rfl, ?_⟩) (by assumption) ?_
                    rotate_left
                    · (intro w hSw; (try dsimp only at hSw); go_simp; (try with_reducible rfl))
                    try simp only [List.getElem_toArray, List.getElem_cons_zero, List.getElem_cons_succ, Act.put, List.setIfInBounds_toArray, List.set_cons_zero, List.set_cons_succ]
                    refine wpAnyH_take (i := 18) (v := undef) rfl (by kernel_rfl) (by kernel_rfl) (by kernel_rfl) (fun _ _ _ h => h) (Or.inr ⟨by rfl, rfl⟩) (by assumption) ?_
                    try simp only [List.getElem_toArray, List.getElem_cons_zero, List.getElem_cons_succ, Act.put, List.setIfInBounds_toArray, List.set_cons_zero, List.set_cons_succ]
                    refine wpAnyH_take (i := 19) (v := undef) rfl (by kernel_rfl) (by kernel_rfl) (by kernel_rfl) (fun _ _ _ h => h) (Or.inr ⟨by rfl, rfl⟩) (by assumption) ?_
                    try simp only [List.getElem_toArray, List.getElem_cons_zero, List.getElem_cons_succ, Act.put, List.setIfInBounds_toArray, List.set_cons_zero, List.set_cons_succ]
                    refine wpAnyH_take (i := 20) (v := undef) rfl (by kernel_rfl) (by kernel_rfl) (by kernel_rfl) (fun _ _ _ h => h) (Or.inr ⟨by rfl, rfl⟩) (by assumption) ?_
                    try simp only [List.getElem_toArray, List.getElem_cons_zero, List.getElem_cons_succ, Act.put, List.setIfInBounds_toArray, List.set_cons_zero, List.set_cons_succ]
                    refine wpAnyH_take (i := 21) (v := undef) rfl (by kernel_rfl) (by kernel_rfl) (by kernel_rfl) (fun _ _ _ h => h) (Or.inr ⟨by rfl, rfl⟩) (by assumption) ?_
                    try simp only [List.getElem_toArray, List.getElem_cons_zero, List.getElem_cons_succ, Act.put, List.setIfInBounds_toArray, List.set_cons_zero, List.set_cons_succ]
                    refine wpAnyH_ready (rs := [22]) (by kernel_rfl) (by simp) ?_
                    refine AllReadyH.cons rfl (fun K hK => ?_) AllReadyH.nil
                    go_simp
                    refine hK.out _ _ (KB.out _ BY.out) (fun hHeld => ?_)
                    clear hK K
                    try simp only [List.getElem_toArray, List.getElem_cons_zero, List.getElem_cons_succ, Act.put, List.setIfInBounds_toArray, List.set_cons_zero, List.set_cons_succ]
                    refine wpAnyH_take (i := 23) (v := undef) rfl (by kernel_rfl) (by kernel_rfl) (by kernel_rfl) (fun _ _ _ h => h) (Or.inr ⟨by rfl, rfl⟩) (by assumption) ?_
                    try simp only [List.getElem_toArray, List.getElem_cons_zero, List.getElem_cons_succ, Act.put, List.setIfInBounds_toArray, List.set_cons_zero, List.set_cons_succ]
                    refine wpAnyH_take (i := 24) (v := ?_) rfl (by kernel_rfl) (by kernel_rfl) (by kernel_rfl) (fun _ _ _ h => h) (Or.inl ⟨by rfl, ?_⟩) (by assumption) ?_
                    rotate_left
                    · (intro w hSw; (try dsimp only at hSw); go_simp; (try with_reducible rfl))
                    try simp only [List.getElem_toArray, List.getElem_cons_zero, List.getElem_cons_succ, Act.put, List.setIfInBounds_toArray, List.set_cons_zero, List.set_cons_succ]
                    refine wpAnyH_take (i := 25) (v := ?_) rfl (by kernel_rfl) (by kernel_rfl) (by kernel_rfl) (fun _ _ _ h => h) (Or.inl ⟨by rfl, ?_⟩) (by assumption) ?_
                    rotate_left
                    · (intro w hSw; (try dsimp only at hSw); go_simp; (try with_reducible rfl))
                    try simp only [List.getElem_toArray, List.getElem_cons_zero, List.getElem_cons_succ, Act.put, List.setIfInBounds_toArray, List.set_cons_zero, List.set_cons_succ]
                    refine wpAnyH_done (by kernel_rfl) ?_ _
                    go_wp2_with fail
                    go_meet
                    exact ⟨rfl, BY.out⟩
                  · obtain ⟨qv, hqv⟩ : ∃ qv, followE a U q X2 m2 (V.length : Nat) = qv := ⟨_, rfl⟩
                    have T1 := Lib.hid (follow_in (wb := wb) (A := B1) (A2 := B2) (c := k1) (d := k2) (by omega) hqv (fun w' hb => ⟨(K.out w' hb).2.2.2.2.1.txu, (K.out w' hb).2.2.2.2.2.txu⟩))
                    have hne : (qv != (V2.length : Int)) = true := by rw [bne_iff_ne, ← hqv]; exact hq
                    have hae : a = (V.length : Nat) := FE.out.2.2.2.resolve_left hq
                    clear hq hqv
                    have hae2 : (a != (V.length : Int)) = false := by rw [bne_eq_false_iff_eq]; exact hae
                    clear hae
                    have hb0 : Below wb.heap.size wb wb := Below.refl _ _
                    go_region_held3 (fun w' => ((w'.cell? ⟨g11, 0, none⟩ = some (.int .i64 a) ∧ w'.cell? ⟨g11, 1, none⟩ = some (.string ⟨U.toArray⟩) ∧ w'.cell? ⟨g11, 2, none⟩ = some (.slice B1 q.length k1) ∧ w'.cell? ⟨g11, 3, none⟩ = some (.string ⟨X2.toArray⟩) ∧ w'.cell? ⟨g11, 4, none⟩ = some (.slice B2 m2.length k2)) ∧ w'.cell? ⟨w7.heap.size, 0, none⟩ = some (.string ⟨V.toArray⟩) ∧ w'.cell? ⟨g13, 0, none⟩ = some (.string ⟨V2.toArray⟩)))
                      (first | (refine KB.out _ ?_; first | assumption | exact belowT_dr hb0))
                      (first
                        | (go_at_call_of 17 V; refine (T1.out _ ?_).mono ?_; (first | assumption | exact belowT_dr hb0); rintro e wx ⟨rfl, hbx⟩)
                        | (go_at_call 17; refine (T0.out _ ?_).mono ?_; (first | assumption | exact belowT_dr hb0); rintro e wx ⟨rfl, hbx⟩))
                    all_goals go_wp2_with fail
                    all_goals go_meet
                    all_goals exact ⟨rfl, hbx⟩
                case rest =>
                  obtain ⟨rfl, hbc2⟩ := hcut
                  replace K := Lib.hid (K.out.step hbc2)
                  clear T0 KB hbc2 FE
                  obtain ⟨x0, x1⟩ := txt_cells K.out.now.1
                  obtain ⟨t0, t1, t2, t3⟩ := txt_var K.out.now.2.2.1.1.now
                  have RS := Lib.hid (K.out.now.2.2.1.1.set (Nat.lt_succ_self _) (c9 := c9) K.out.now.2.1)
                  have hne : g11 ≠ w7.heap.size := by have := Z9.out; omega
                  have B11 := Lib.hid ((K.out.now.2.2.2.1.far (p := ⟨w7.heap.size, 0, none⟩) hne (.string ⟨V2.toArray⟩)).far (p := ⟨w7.heap.size, 1, none⟩) hne (.slice A9 r2.length c9))
                  have Q1 := Lib.hid ((K.out.now.2.2.2.2.1.set 0 (.string ⟨V2.toArray⟩)).set 1 (.slice A9 r2.length c9))
                  have Q2 := Lib.hid ((K.out.now.2.2.2.2.2.set 0 (.string ⟨V2.toArray⟩)).set 1 (.slice A9 r2.length c9))
                  have PH := Lib.hid K.out.now.2.2.1.1.path
                  go_upto_region 19 with fail
                  clear K x0 x1 t0 t1 t2 t3 hne
                  generalize (wc.setCell ⟨w7.heap.size, 0, none⟩ (.string ⟨V2.toArray⟩)).setCell ⟨w7.heap.size, 1, none⟩ (.slice A9 r2.length c9) = wy at *
                  have SZ : w7.heap.size + 1 ≤ wy.heap.size := RS.out.1.lt
                  obtain ⟨v', w', hp, ow, hgr, hnw⟩ := push_done (wr := wy) (DoneP.mk a U B1 q k1 X2 B2 m2 k2) RS.out.2.2.1 (by omega) SZ
                  obtain ⟨Av', cv', rfl⟩ := own_form ow
                  have HE := Lib.hid hp
                  have BA := Lib.hid ((Below.refl wy.heap.size wy).alloc (Nat.le_refl _) (.cells (DoneP.cells (DoneP.mk a U B1 q k1 X2 B2 m2 k2)).toArray 29))
                  have HN : Hid (RepK w7 w7.heap.size (w7.heap.size + 1) S l w' (.slice Av' (ds ++ [DoneP.mk a U B1 q k1 X2 B2 m2 k2]).length cv') (ds ++ [DoneP.mk a U B1 q k1 X2 B2 m2 k2]) (ds ++ [DoneP.mk a U B1 q k1 X2 B2 m2 k2]) V2 r2 A9 c9) := by
                    refine ⟨ow, (hgr.block _ ?_ ?_).trans (RS.out.1.alloc _), (RS.out.2.1.step BA.out).app hgr hnw, ?_, .snoc PH.out P3.out, ?_⟩
                    · simp; omega
                    · intro e
                      have := RS.out.2.2.1.lt _ e.symm
                      omega
                    · intro e he
                      rcases List.mem_append.1 he with he | he
                      · have := RS.out.2.2.2.1 e he
                        exact ⟨⟨(this.1.1.step BA.out).app hgr hnw, (this.1.2.step BA.out).app hgr hnw⟩, this.2⟩
                      · obtain rfl := List.mem_singleton.1 he
                        exact ⟨⟨(Q1.out.step BA.out).app hgr hnw, (Q2.out.step BA.out).app hgr hnw⟩, HRL.out⟩
                    · exact (RS.out.2.2.2.2.alloc (by omega) _).trans ((own_below (RS.out.2.2.1.alloc _) hgr (by simp; omega)).mono (by omega))
                  obtain ⟨u0, u1, u2, u3, u4⟩ := ed_cells B11.out
                  clear hp ow hgr hnw
                  go_wp2_with (at_builtin; refine wpList_append_eq rfl (.tmp 121) (.tmp 123) 59 59 rfl _ _ rfl rfl (HE.out _) ?_)
                  go_roundw
                  case rel => exact ⟨k + 1, ds ++ [DoneP.mk a U B1 q k1 X2 B2 m2 k2], V2, r2, A9, c9, by omega, by omega, by go_num, by rw [List.length_append, List.length_singleton]; omega, by have e := HN.out; rw [List.length_append, List.length_singleton] at e; exact e⟩
                  case measure => simp [intOf]; omega
              · have hn' : ((n : Int) == 0) = false := by simp; omega
                clear hn
                go_wp2_with fail
                go_roundw
                case rel => exact ⟨k + 1, ds, V, r, A8, c8, by omega, by omega, by go_num, by omega, K.out.now.1.1⟩
                case measure => simp [intOf]; omega
          · have H1 := Lib.hid (decide_eq_false hfit)
            clear hfit
            go_wp2_with (go_at_call 10; refine (lawFits_any X XT.out.hS m XT.out.hl Ax cx _).mono ?_; rw [H1.out]; rintro e w8 ⟨rfl, bb⟩; replace K := Lib.hid (K.out.step bb); clear bb d0 d1 d2 d3)
            go_roundw
            case rel => exact ⟨k + 1, ds, V, r, A8, c8, by omega, by omega, by go_num, by omega, K.out.now.1⟩
            case measure => simp [intOf]; omega
        · go_upto_region 10 with fail
          go_cut [56] (fun s56 wx => s56 = .bool false ∧ wx = wr)
          case first =>
            by_cases h1 : k < pus.length
            · have h2 : ¬ k < 30 := fun h => hlt ⟨h1, h⟩
              go_wp2_with fail
              go_meet
              first | exact ⟨rfl, rfl⟩ | exact ⟨by simp; omega, rfl⟩
            · go_wp2_with fail
              go_meet
              first | exact ⟨rfl, rfl⟩ | exact ⟨by simp; omega, rfl⟩
          case rest =>
            obtain ⟨rfl, rfl⟩ := hcut
            have hd30 : ds.length ≤ 30 := by omega
            clear hlt hk1 hk2 hds
            go_wp2_with fail
            go_loopw [15] (fun i wx => ∃ (x : Int) (j : Nat) (V3 : List UInt8) (r3 : List RunP) (A10 : Option Addr) (c10 : Nat), i = .int .i64 x ∧ x = (j : Int) - 1 ∧ j ≤ ds.length ∧ RepK w7 w7.heap.size (w7.heap.size + 1) S l wx (.slice Av ds.length cv) ds (ds.take j) V3 r3 A10 c10) (fun i _ => (intOf i + 1).toNat)
            case atStart => exact ⟨_, ds.length, V, r, A8, c8, rfl, rfl, Nat.le_refl _, ⟨H.out.own, H.out.now, H.out.txt, H.out.done, by rw [List.take_length]; exact H.out.path, H.out.bl⟩⟩
            case round =>
              obtain ⟨x, j, V3, r3, A10, c10, rfl, hx, hj, HK2⟩ := hrel
              have H2 := Lib.hid HK2
              clear HK2
              rcases j with _ | j
              · have hxn : x < 0 := by omega
                clear hx
                obtain ⟨rfl, rfl⟩ := path_empty H2.out.path (List.take_zero)
                obtain ⟨y0, y1⟩ := txt_cells H2.out.now
                obtain ⟨z0, z1⟩ := txt_cells (KW.out _ H2.out.bl).1
                have BW := Lib.hid (KW.out _ H2.out.bl)
                have TX := Lib.hid H2.out.txt.txu
                go_wp2_with (go_at_call 21; refine (refTSame_any A10 A c10 c _ _ V3 V3 r3 r3 _ (Nat.le_refl _) BW.out.2.1.size TX.out BW.out.2.2.1).mono ?_; rw [decide_eq_true ⟨rfl, rfl⟩]; rintro e w9 ⟨rfl, bb⟩)
                go_ret
                exact ⟨rfl, BW.out.2.1.trans (bb.mono BW.out.2.1.size)⟩
              · obtain rfl : x = (j : Int) := by omega
                have hjl : j < ds.length := by omega
                clear hx hj
                obtain ⟨V0, r0, hp0, ha0⟩ := path_back H2.out.path hjl
                obtain ⟨ad, rfl, hbl, d0, d1, d2, d3, d4⟩ := done_at (Row.of_own H2.out.own) hjl
                have D := Lib.hid (H2.out.done ds[j] (List.getElem_mem hjl))
                generalize ds[j] = e at *
                obtain ⟨a, U, B1, q, k1, X2, B2, m2, k2⟩ := e
                dsimp only at d0 d1 d2 d3 d4 ha0 D
                have HA0 := Lib.hid ha0
                have HP0 := Lib.hid hp0
                have K : Hid (Grow wr (fun w' => RepK w7 w7.heap.size (w7.heap.size + 1) S l w' (.slice (some ad) ds.length cv) ds (ds.take (j + 1)) V3 r3 A10 c10 ∧ (w'.cell? (ad.add (j * 5)) = some (.int .i64 a) ∧ w'.cell? ⟨(ad.add (j * 5)).block, (ad.add (j * 5)).off + 1, none⟩ = some (.string ⟨U.toArray⟩) ∧ w'.cell? ⟨(ad.add (j * 5)).block, (ad.add (j * 5)).off + 2, none⟩ = some (.slice B1 q.length k1) ∧ w'.cell? ⟨(ad.add (j * 5)).block, (ad.add (j * 5)).off + 3, none⟩ = some (.string ⟨X2.toArray⟩) ∧ w'.cell? ⟨(ad.add (j * 5)).block, (ad.add (j * 5)).off + 4, none⟩ = some (.slice B2 m2.length k2)) ∧ TxQ w' w7.heap.size (.slice (some ad) ds.length cv) B1 U q ∧ TxQ w' w7.heap.size (.slice (some ad) ds.length cv) B2 X2 m2)) :=
                  (grow_rep H2.out).and (Grow.and ((grow_cell d0).and ((grow_cell d1).and ((grow_cell d2).and ((grow_cell d3).and (grow_cell d4))))) ((grow_txq D.out.1.1).and (grow_txq D.out.1.2)))
                have DL := Lib.hid D.out.2
                go_upto_region 23 with fail
                clear d0 d1 d2 d3 d4 ha0 hp0 D H2
                have Z8 : Hid (w7.heap.size < wr.heap.size ∧ ∀ k, (Value.slice (some ad) ds.length cv).ownBlock = some k → k < wr.heap.size) := ⟨K.out.now.1.now.lt, K.out.now.1.own_lt⟩
                have TI := Lib.hid (invert_in (wb := wr) (a := a) (A := B1) (A2 := B2) (c := k1) (d := k2) (S := U) (l := q) (X := X2) (m := m2) DL.out.1 DL.out.2 (fun w' hb => (K.out w' hb).2.2.1.txu) (fun w' hb => (K.out w' hb).2.2.2.txu))
                have TA := Lib.hid (apply_new (wb := wr) (A4 := A10) (c4 := c10) HA0.out (fun w' hb => (K.out w' hb).1.txt.txu))
                have KB := Lib.hid (fun w' hb => And.intro (And.intro (txt_cells (K.out w' hb).1.now) (K.out w' hb).2.1) hb)
                have hb0 : Below wr.heap.size wr wr := Below.refl _ _
                go_cut [16, 17] (fun s16 s17 wx => ∃ (g : Nat) (A9 : Option Addr) (c9 : Nat), s16 = .pointer (some ⟨g, 0, none⟩) ∧ s17 = .int .i64 0 ∧ Below wr.heap.size wr wx ∧ Blk wx g 24 #[.string ⟨V0.toArray⟩, .slice A9 r0.length c9] ∧ RowG wx wr.heap.size A9 (flatR r0))
                case first =>
                  go_region_held3 (fun w' => ((w'.cell? ⟨w7.heap.size, 0, none⟩ = some (.string ⟨V3.toArray⟩) ∧ w'.cell? ⟨w7.heap.size, 1, none⟩ = some (.slice A10 r3.length c10)) ∧ w'.cell? (ad.add (j * 5)) = some (.int .i64 a) ∧ w'.cell? ⟨(ad.add (j * 5)).block, (ad.add (j * 5)).off + 1, none⟩ = some (.string ⟨U.toArray⟩) ∧ w'.cell? ⟨(ad.add (j * 5)).block, (ad.add (j * 5)).off + 2, none⟩ = some (.slice B1 q.length k1) ∧ w'.cell? ⟨(ad.add (j * 5)).block, (ad.add (j * 5)).off + 3, none⟩ = some (.string ⟨X2.toArray⟩) ∧ w'.cell? ⟨(ad.add (j * 5)).block, (ad.add (j * 5)).off + 4, none⟩ = some (.slice B2 m2.length k2)) ∧ Below wr.heap.size wr w')
                    (first | (refine KB.out _ ?_; (repeat (first | assumption | refine belowT_dr ?_ | refine belowT_al ?_ (Nat.le_refl _) | (refine Below.setCell ?_ ?_ _; rotate_left; (first | focus (simp; done) | focus (simp; omega))))); done))
                    (first
                      | (go_at_call 14; refine (TI.out _ ?_).mono ?_; (repeat (first | assumption | refine belowT_dr ?_ | refine belowT_al ?_ (Nat.le_refl _))); rintro e w8 ⟨E1, e1, E2, e2, rfl, ri, hbx, hby⟩; have hzy := hbx.size; first | (refine use_factT (knT_one_drew hby) ?_; intro a1; obtain ⟨⟨b1, b2⟩, ⟨b3, b4⟩, b5, b6, b7⟩ := knT_of a1; have AV := Lib.hid a1; clear a1) | skip)
                      | (go_at_call 20; refine (TA.out _ ?_ E1 e1 E2 e2 ?_ ?_).mono ?_; (repeat (first | assumption | refine belowT_dr ?_ | refine belowT_al ?_ (Nat.le_refl _))); (first | exact ri.out.now.1 | exact (ri.out.alloc _).now.1); (first | exact ri.out.now.2 | exact (ri.out.alloc _).now.2); rintro e w9 ⟨A9, c9, rfl, ra, hbx, hby⟩; have hzy := hbx.size; first | (refine use_factT (knT_one hby) ?_; intro a1; obtain ⟨⟨b1, b2⟩, ⟨b3, b4⟩, b5, b6, b7⟩ := knT_of a1; have AV := Lib.hid a1; clear a1) | (refine use_factT (blkT_step AV.out hby) ?_; intro a1; obtain ⟨⟨b1, b2⟩, ⟨b3, b4⟩, b5, b6, b7⟩ := knT_of a1; have AV := Lib.hid a1; clear a1) | skip))
                  all_goals go_wp2_with fail
                  all_goals go_meet
                  all_goals
                    refine ⟨_, A9, c9, rfl, rfl, ?_, ?_, ?_⟩
                    · repeat (first | assumption | refine belowT_dr ?_ | refine belowT_al ?_ (Nat.le_refl _) | (refine Below.setCell ?_ ?_ _; rotate_left; (first | focus (simp; done) | focus (simp; omega))))
                    · first | with_reducible exact Blk.new _ _ _ | exact blk_two AV.out _ _
                    · first | with_reducible exact ((grow_rowG ra.out).alloc _).now | exact rowG_setV ra.out AV.out _ _
                case rest =>
                  obtain ⟨g16, A9, c9, rfl, rfl, hbc, n1, ra⟩ := hcut
                  have O3 : Hid (OkT ((V0, r0), 0)) := by show OkT _; rw [← HA0.out]; exact okT_apply K.out.now.1.txt.hf K.out.now.2.2.1.hf _ _ _
                  have TQ := Lib.hid (TxQ.new O3.out.txt0.1 O3.out.txt0.2.1 O3.out.txt0.2.2 ra Z8.out.1 Z8.out.2)
                  replace K := Lib.hid (K.out.step hbc)
                  obtain ⟨x0, x1⟩ := txt_cells n1
                  obtain ⟨t0, t1, t2, t3⟩ := txt_var K.out.now.1.now
                  have RS := Lib.hid (K.out.now.1.set (Nat.lt_succ_self _) (c9 := c9) TQ.out)
                  clear TI TA KB hb0 hbc n1 ra Z8
                  go_wp2_with fail
                  go_roundw
                  case rel => exact ⟨(j : Int) - 1, j, V0, r0, A9, c9, rfl, rfl, by omega, ⟨RS.out.2.2.1, RS.out.1, RS.out.2.1, RS.out.2.2.2.1, HP0.out, RS.out.2.2.2.2⟩⟩
                  case measure => simp [intOf]
    · rw [Bool.not_eq_true] at hg
      have H1 := Lib.hid (decide_eq_true hfit)
      clear hfit
      go_wp2_with (first
        | (go_at_call 25; refine (ediCheck_any (some ⟨w.heap.size + 1, 0, none⟩) A1 A3 1 c1 c3 [97, 98] [(1, 2)] 1 [98] [(1, 1)] [] [] _ K.out.now.2.2.1 K.out.now.1.2.1 K.out.now.1.2.2).mono ?_; rw [HA.out.2.1]; rintro e w4 ⟨rfl, bb⟩; replace K := Lib.hid (K.out.step bb); clear bb y0 y1 u0 u1 u2 u3 u4; obtain ⟨u0, u1, u2, u3, u4⟩ := ed_cells K.out.now.1.1; obtain ⟨x0, x1⟩ := txt_cells K.out.now.2.2.2.1)
        | (go_at_call 17; refine (ediFollow_any A1 A3 c1 c3 1 [98] [(1, 1)] [] [] 2 (by omega) _ K.out.now.1.2.1 K.out.now.1.2.2).mono ?_; rw [HA.out.2.2]; rintro e w5 ⟨rfl, bb⟩; replace K := Lib.hid (K.out.step bb); clear bb x0 x1 u0 u1 u2 u3 u4; obtain ⟨x0, x1⟩ := txt_cells K.out.now.2.2.2.1)
        | (go_at_call 10; refine (lawFits_any S L.out.hS l L.out.hl A c _).mono ?_; rw [H1.out]; rintro e w6 ⟨rfl, bb⟩; replace K := Lib.hid (K.out.step bb); clear bb x0 x1; obtain ⟨x0, x1⟩ := txt_cells K.out.now.2.2.2.1)
        | (go_at_call 26; refine (refTGood_any A c _ S l _ (K.out.now.2.2.2.2.1.size) K.out.now.2.2.2.2.2.1).mono ?_; rw [hg]; rintro e w7 ⟨rfl, bb⟩; replace K := Lib.hid (K.out.step bb); clear bb x0 x1; obtain ⟨x0, x1⟩ := txt_cells K.out.now.2.2.2.1))
      go_ret
      exact ⟨rfl, K.out.now.2.2.2.2.1⟩
  · have H1 := Lib.hid (decide_eq_false hfit)
    clear hfit
    go_wp2_with (first
      | (go_at_call 25; refine (ediCheck_any (some ⟨w.heap.size + 1, 0, none⟩) A1 A3 1 c1 c3 [97, 98] [(1, 2)] 1 [98] [(1, 1)] [] [] _ K.out.now.2.2.1 K.out.now.1.2.1 K.out.now.1.2.2).mono ?_; rw [HA.out.2.1]; rintro e w4 ⟨rfl, bb⟩; replace K := Lib.hid (K.out.step bb); clear bb y0 y1 u0 u1 u2 u3 u4; obtain ⟨u0, u1, u2, u3, u4⟩ := ed_cells K.out.now.1.1; obtain ⟨x0, x1⟩ := txt_cells K.out.now.2.2.2.1)
      | (go_at_call 17; refine (ediFollow_any A1 A3 c1 c3 1 [98] [(1, 1)] [] [] 2 (by omega) _ K.out.now.1.2.1 K.out.now.1.2.2).mono ?_; rw [HA.out.2.2]; rintro e w5 ⟨rfl, bb⟩; replace K := Lib.hid (K.out.step bb); clear bb x0 x1 u0 u1 u2 u3 u4; obtain ⟨x0, x1⟩ := txt_cells K.out.now.2.2.2.1)
      | (go_at_call 10; refine (lawFits_any S L.out.hS l L.out.hl A c _).mono ?_; rw [H1.out]; rintro e w6 ⟨rfl, bb⟩; replace K := Lib.hid (K.out.step bb); clear bb x0 x1; obtain ⟨x0, x1⟩ := txt_cells K.out.now.2.2.2.1))
    go_ret
    exact ⟨rfl, K.out.now.2.2.2.2.1⟩
end Go.Proofs.Ytmpliacojljchaa

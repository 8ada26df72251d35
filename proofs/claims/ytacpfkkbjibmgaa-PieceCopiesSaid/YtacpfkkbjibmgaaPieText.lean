/-
  The landed store: text: layer 5.
-/
import Derived.Test.YtacpfkkbjibmgaaPiePart
import Derived.Test.YtacpfkkbjibmgaaM03
import Derived.StillTailTactics
namespace Go.Proofs.Ytacpfkkbjibmgaa
open Go.RowKit

/-- a text is the answer -/
def GivesX (w : World) (S : List UInt8) (l : List RunP) (e : Ending) (w' : World) : Prop :=
  ∃ A c, e = .returned (.agg #[.string ⟨S.toArray⟩, .slice A l.length c]) ∧ w'.ownsRow w.heap.size 58 2 (.slice A l.length c) l.length (flatR l) ∧ Below w.heap.size w w'

theorem givesX_end {w w3 : World} {gr b0 c : Nat} {A : Option Addr} {S0 V0 : Value} {l : List RunP} (S : List UInt8) (hb : Below w.heap.size w w3) (hg : Blk w3 gr 28 #[S0, V0]) (h1 : w.heap.size ≤ gr) (h2 : gr < b0)
    (hown : w3.ownsRow b0 58 2 (.slice A l.length c) l.length (flatR l)) :
    Blk ((w3.setCell ⟨gr, 0, none⟩ (.string ⟨S.toArray⟩)).setCell ⟨gr, 1, none⟩ (.slice A l.length c)) gr 28 #[.string ⟨S.toArray⟩, .slice A l.length c] ∧
    GivesX w S l (.returned (.agg #[.string ⟨S.toArray⟩, .slice A l.length c])) ((w3.setCell ⟨gr, 0, none⟩ (.string ⟨S.toArray⟩)).setCell ⟨gr, 1, none⟩ (.slice A l.length c)) := by
  refine ⟨blk_two hg _ _, A, c, rfl, ?_, (hb.setCell (by show w.heap.size ≤ gr; exact h1) _).setCell (by show w.heap.size ≤ gr; exact h1) _⟩
  have := own_away (own_away hown (p := ⟨gr, 0, none⟩) h2 (.string ⟨S.toArray⟩)) (p := ⟨gr, 1, none⟩) h2 (.slice A l.length c)
  exact own_base this (by omega)

/-- what two rows hold whose elements are of unlike types -/
theorem own_apart {w : World} {b1 b2 e1 e2 s1 s2 n1 n2 : Nat} {v1 v2 : Value} {x1 x2 : List Value} (h1 : w.ownsRow b1 e1 s1 v1 n1 x1) (h2 : w.ownsRow b2 e2 s2 v2 n2 x2) (hne : e1 ≠ e2) : ∀ g, v1.ownBlock = some g → v2.ownBlock ≠ some g := by
  intro g hg hg2
  rcases h1.2 with ⟨rfl, _⟩ | ⟨g1, c1, cur1, rfl, _, hh1, _⟩
  · simp [Value.ownBlock] at hg
  · rcases h2.2 with ⟨rfl, _⟩ | ⟨g2, c2, cur2, rfl, _, hh2, _⟩
    · simp [Value.ownBlock] at hg2
    · simp [Value.ownBlock] at hg hg2
      subst hg; subst hg2
      rw [hh1] at hh2
      injection hh2 with hh2
      injection hh2 with _ hh2
      exact hne hh2
theorem own_grown {w w' : World} {base e size n : Nat} {v v2 : Value} {xs : List Value} (h : w.ownsRow base e size v n xs) (hg : w.grownBy w' v2.ownBlock) (hne : ∀ g, v.ownBlock = some g → v2.ownBlock ≠ some g) : w'.ownsRow base e size v n xs := by
  refine ⟨h.1, ?_⟩
  rcases h.2 with hn | ⟨g, cap, cur, rfl, hb, hgg, rest⟩
  · exact .inl hn
  · refine .inr ⟨g, cap, cur, rfl, hb, ?_, rest⟩
    rw [hg.block g (Array.getElem?_eq_some_iff.1 hgg).1 (fun e => hne g rfl e.symm)]
    exact hgg
theorem own_other {w w' : World} {base e size n : Nat} {v v2 : Value} {xs : List Value} (h : w.ownsRow base e size v n xs) (ho : ∀ g, g < w.heap.size → v2.ownBlock ≠ some g → w'.heap[g]? = w.heap[g]?) (hne : ∀ g, v.ownBlock = some g → v2.ownBlock ≠ some g) : w'.ownsRow base e size v n xs := by
  refine ⟨h.1, ?_⟩
  rcases h.2 with hn | ⟨g, cap, cur, rfl, hb, hgg, rest⟩
  · exact .inl hn
  · refine .inr ⟨g, cap, cur, rfl, hb, ?_, rest⟩
    rw [ho g (Array.getElem?_eq_some_iff.1 hgg).1 (hne g rfl)]
    exact hgg
theorem own_setOther {w : World} {base e size n : Nat} {v : Value} {xs : List Value} (h : w.ownsRow base e size v n xs) {p : Addr} (hne : ∀ g, v.ownBlock = some g → g ≠ p.block) (u : Value) : (w.setCell p u).ownsRow base e size v n xs := by
  refine ⟨h.1, ?_⟩
  rcases h.2 with h | ⟨g, cap, cur, rfl, hg, hh, h⟩
  · exact .inl h
  · exact .inr ⟨g, cap, cur, rfl, hg, (heap_setCell_other w p g u (hne g rfl)).trans hh, h⟩
theorem blk_grown {w w' : World} {g T : Nat} {cs : Array Value} {v : Value} (h : Blk w g T cs) (hg : w.grownBy w' v.ownBlock) (hne : v.ownBlock ≠ some g) : Blk w' g T cs := (hg.block g h.lt (fun e => hne e.symm)).trans h
theorem row_some {w : World} {B : Nat} {A : Option Addr} {bs : List UInt8} (h : Row w B A (bs.map byt)) (hl : 0 < bs.length) : ∃ ad, A = some ad ∧ ad.block < B := by
  rcases h with h | ⟨ad, rfl, hb, _⟩
  · have : bs = [] := by simpa using h
    subst this
    simp at hl
  · exact ⟨ad, rfl, hb⟩
/-- a slice of a row of bytes -/
theorem row_bytes_cut {w : World} {B : Nat} {A : Option Addr} {bs : List UInt8} (h : Row w B A (bs.map byt)) (f n : Nat) : Row w B (A.map fun a => a.add f) (((bs.drop f).take n).map byt) := by
  rcases h with h | ⟨ad, rfl, hb, hc⟩
  · have : bs = [] := by simpa using h
    subst this
    exact .inl (by simp)
  · refine .inr ⟨ad.add f, rfl, by rw [add_block]; exact hb, fun j u hj => ?_⟩
    rw [List.getElem?_map] at hj
    obtain ⟨x, hx, rfl⟩ := Option.map_eq_some_iff.1 hj
    rw [List.getElem?_take] at hx
    split at hx
    · rw [List.getElem?_drop] at hx
      have := hc (f + j) (byt x) (by rw [List.getElem?_map, hx]; rfl)
      have e : (ad.add f).add j = ad.add (f + j) := by unfold Addr.add; split <;> split <;> simp_all <;> omega
      rw [e]; exact this
    · simp at hx

/-- bytes onto bytes -/
theorem run_append_bytes {w : World} (base : Nat) (tx ty : TypeId) (v : Value) (n : Nat) (xs : List Value) (hown : w.ownsRow base 5 1 v n xs) (x : Value) (m : Nat) (news : List Value) (hs : Src Try.prog 1 tx x m news w) (h63 : n + m ≤ 1000000) (hbase : base ≤ w.heap.size) :
    ∃ v' w', (Builtin.append_ #[51, tx] ty #[v, x]).run Try.prog w = .ok v' w' ∧ w'.ownsRow base 5 1 v' (n + m) (xs ++ news) ∧ w.grownBy w' v.ownBlock ∧ NewOr w v v' := by
  obtain ⟨i, hi, hz, h1, h2⟩ := info_parts elt_byte.hi
  exact run_append_any base 51 tx ty 5 i (.int .u8 0) 1 1 elt_byte.ht hi hz h1 h2 rfl v n xs hown x m news hs (by unfold maxLen; omega) (by omega) hbase
theorem byt_cell (l : List UInt8) : ∀ u ∈ l.map byt, u.oneCell' = true := by
  intro u hu
  obtain ⟨b, _, rfl⟩ := List.mem_map.1 hu
  rfl

set_option maxHeartbeats 2000000 in
theorem pieText_any (g Bb B : Nat) (Ab A : Option Addr) (cb c : Nat) (mk m vp : Value) (bs : List UInt8) (ps : List PieP) (w : World) (hg : Blk w g 54 #[mk, m, .slice Ab bs.length cb, vp]) (hcb : bs.length ≤ cb) (hBb : Bb ≤ w.heap.size) (hb0 : Row w Bb Ab (bs.map byt)) (hB : B ≤ w.heap.size) (h : Row w B A (flatP ps)) (ok : OkP bs ps) (hlen : ps.length ≤ 100000) (hmax : lenP ps ≤ 4096) (hbs : bs.length ≤ 100000) :
    Calls Try.prog 23 #[.pointer (some ⟨g, 0, none⟩), .slice A ps.length c] w (GivesX w (bytesP bs ps) (pack (labsP ps))) := by
  have HOK := Lib.hid ok
  clear ok
  have HG := Lib.hid hg
  have hgl := hg.lt
  have Q0 := Lib.hid (And.intro (Blk.new w 28 #[.string ⟨#[]⟩, .slice none 0 0]) ((Below.refl w.heap.size w).alloc (Nat.le_refl _) (.cells #[.string ⟨#[]⟩, .slice none 0 0] 28)))
  have hz0 : (w.alloc (.cells #[.string ⟨#[]⟩, .slice none 0 0] 28)).heap.size = w.heap.size + 1 := by simp
  have HZ0 := Lib.hid hz0
  clear hg hz0
  go_enter Try.func23, Try.ntmps23
  go_wp2_with fail
  generalize w.alloc (.cells #[.string ⟨#[]⟩, .slice none 0 0] 28) = w0 at *
  go_loopw [5, 6, 12] (fun v1 v2 i wr => ∃ k : Nat, k ≤ ps.length ∧ i = .int .i64 k ∧ wr.ownsRow (w.heap.size + 1) 5 1 v1 (bytesP bs (ps.take k)).length ((bytesP bs (ps.take k)).map byt) ∧ wr.ownsRow (w.heap.size + 1) 58 2 v2 (pack (labsP (ps.take k))).length (flatR (pack (labsP (ps.take k)))) ∧ Below (w.heap.size + 1) w0 wr) (fun _ _ i _ => ps.length - (intOf i).toNat)
  case atStart => exact ⟨0, Nat.zero_le _, rfl, World.ownsRow_nil _ _ _ _, World.ownsRow_nil _ _ _ _, Below.refl _ _⟩
  case round =>
    obtain ⟨k, hk, rfl, hown1, hown2, hb⟩ := hrel
    have z := hb.size
    have hbw : Below w.heap.size w wr := Q0.out.2.trans (hb.mono (by omega))
    have HG1 := Lib.hid (HG.out.below hbw hgl)
    have zz := HZ0.out
    rw [zz] at z
    by_cases hlt : k < ps.length
    · obtain ⟨ad, rfl, hbl, c0, c1, c2⟩ := pie_cells (h.below (hbw.mono hB)) hlt
      have hok := HOK.out ps[k] (List.getElem_mem hlt)
      have hl1 := Lib.hid (bytesP_len (OkP.take HOK.out k))
      have hm1 := lenP_take_bound hmax k
      have hl2 := Lib.hid (labsP_len (ps.take k))
      have HT := Lib.hid (List.take_succ_eq_append_getElem hlt)
      obtain ⟨adb, rfl, hbl2⟩ := row_some hb0 (by omega)
      have HSRC : Hid (Row wr Bb (some (adb.add ps[k].1)) (((bs.drop ps[k].1).take ps[k].2.1).map byt)) := row_bytes_cut (hb0.below (hbw.mono hBb)) ps[k].1 ps[k].2.1
      have HBK : Hid (((bs.drop ps[k].1).take ps[k].2.1).length = ps[k].2.1) := by show _ = _; rw [List.length_take, List.length_drop]; omega
      have HB1 : Hid (bytesP bs (ps.take (k + 1)) = bytesP bs (ps.take k) ++ (bs.drop ps[k].1).take ps[k].2.1) := by show _ = _; rw [HT.out, bytesP_append, bytesP_cons, bytesP_nil, List.append_nil]
      have HL1 : Hid (pack (labsP (ps.take (k + 1))) = packMore (pack (labsP (ps.take k))) ps[k].2.2 ps[k].2.1) := by
        show _ = _
        rw [HT.out, labsP_append, labsP_cons, labsP_nil, List.append_nil, pack_moreN _ _ _ (by omega)]
      clear HT
      generalize ps[k] = r at *
      obtain ⟨x, n, l⟩ := r
      dsimp only at *
      have hn : n ≤ 100000 := by omega
      have hx : x ≤ 100000 := by omega
      have hle1 : (bytesP bs (ps.take k)).length ≤ 4096 := by have := hl1.out; omega
      have hle2 : (labsP (ps.take k)).length ≤ 4096 := by have := hl2.out; omega
      have hpl := pack_len (labsP (ps.take k))
      have PB := Lib.hid (pie_box hbw 73 (.int .i64 (x : Nat)) (.int .i64 (n : Nat)) (.int .u64 (l : Nat)))
      have PC := Lib.hid (hb.alloc (by omega : w.heap.size + 1 ≤ wr.heap.size) (.cells #[.int .i64 (x : Nat), .int .i64 (n : Nat), .int .u64 (l : Nat)] 73))
      have s1 : (0 : Int) ≤ (x : Int) := by omega
      have s2 : (x : Int) ≤ (x : Int) + (n : Int) := by omega
      have s3 : (x : Int) + (n : Int) ≤ (cb : Int) := by omega
      have s4 : ¬ cb = x := by omega
      have s5 := wrap_small ((x : Int) + (n : Int)) (by omega) (by omega)
      have s6 : (0 : Int) ≤ (x : Int) + (n : Int) := by omega
      have s7 : ((x : Int) + (n : Int)).toNat = x + n := by omega
      go_wp2_with fail
      generalize wr.alloc (.cells #[.int .i64 (x : Nat), .int .i64 (n : Nat), .int .u64 (l : Nat)] 73) = wa at *
      clear c0 c1 c2
      refine wp_region_still_tail 13 (by kernel_rfl) (by kernel_rfl) ?_
      simp only [List.take_succ_cons, List.take_zero, List.drop_succ_cons, List.drop_zero]
      change wpStill _ _ (World.drew wa) (fun a' => wpList _ _ _ _ a' (World.drew wa)) _ _
      have D1 : Below wr.heap.size wr wa.drew := below_drewN PB.out.2.2.2 1
      have D2 : Below (w.heap.size + 1) w0 wa.drew := below_drewN PC.out 1
      have D3 : Blk wa.drew wr.heap.size 73 _ := PB.out.1.drewN 1
      generalize wa.drew = wb at *
      obtain ⟨y0, y1, y2⟩ := blk_three D3
      obtain ⟨_, _, y5, _⟩ := sto_cells (HG1.out.below D1 HG1.out.lt)
      repeat still_step
      refine wpStill_nil ?_
      have hownb := own_keep hown1 D1 (Nat.le_refl _)
      have hownr := own_keep hown2 D1 (Nat.le_refl _)
      have SRC := Src.ofRow (P := Try.prog) (size := 1) (n := n) (c := cb - x) (tx := 51) elt_byte.ht (by rw [List.length_map, HBK.out, Nat.mul_one]) (by decide) (HSRC.out.below (D1.mono (by omega))) (byt_cell _)
      obtain ⟨v3, w3, hr3, hown3, hg3, hn3⟩ := run_append_bytes (w.heap.size + 1) 51 51 _ _ _ hownb _ n _ SRC (by omega) (by have := D2.size; omega)
      have HR3 := Lib.hid hr3
      have HOR := Lib.hid (own_grown hownr hg3 (own_apart hownr hownb (by decide)))
      have HY3 : Hid (Below (w.heap.size + 1) w0 w3) := D2.trans (own_below hownb hg3 (by have := D2.size; omega))
      clear hr3 SRC hownb hownr hn3
      have NE1 : Hid (u5.ownBlock ≠ some wr.heap.size) := fun e => by have := (hown1.lt _ e).2; omega
      have P3 := Lib.hid (blk_grown D3 hg3 NE1.out)
      clear hg3 hown1 hown2 hb D1 D2 D3 y0 y1 y2 y5
      obtain ⟨y0, y1, y2⟩ := blk_three P3.out
      have z3 := HY3.out.size
      rw [zz] at z3
      rcases snoc_cases (pack (labsP (ps.take k))) with e | ⟨m, q, e⟩
      · rw [e] at HOR HL1
        rw [packMore_nil] at HL1
        clear e
        obtain ⟨A6, c6, rfl⟩ := own_form HOR.out
        go_wp2_with (at_builtin; refine wpList_append_eq rfl _ _ _ _ rfl _ _ rfl rfl HR3.out ?_)
        go_quiet (fail)
        have X1 := own_keep hown3 (below_drewN (Below.refl _ w3) nq) (Nat.le_refl _)
        have X2 := own_keep HOR.out (below_drewN (Below.refl _ w3) nq) (Nat.le_refl _)
        have X3 : Hid (Below (w.heap.size + 1) w0 (w3.drewN nq)) := below_drewN HY3.out nq
        have X4 := Lib.hid (P3.out.drewN nq)
        have z4 : w.heap.size + 1 ≤ (w3.drewN nq).heap.size := z3
        clear y0 y1 y2
        generalize w3.drewN nq = w4 at *
        obtain ⟨y0, y1, y2⟩ := blk_three X4.out
        have X5 := Lib.hid (own_apart X1 X2 (by decide))
        have X6 : Hid (wr.heap.size < w4.heap.size) := X4.out.lt
        have X7 := Lib.hid X1
        clear X1
        go_wp2_with (at_builtin; refine wpList_pushN rfl _ _ _ rfl (w.heap.size + 1) 58 _ 2 16 elt_run 58 _ _ _ rfl X2 [.int .u64 (l : Nat), .int .i64 (n : Nat)] _ rfl rfl rfl (by simp [Value.oneCell']) (by unfold maxLen; simp) (by simp) z4 ?_; intro v5 w5 hown5 hb5 ho5; have HX := Lib.hid (own_other X7.out ho5 X5.out); have HXB : Hid (Below (w.heap.size + 1) w0 w5) := X3.out.trans hb5; clear hb5 ho5)
        go_roundw
        case rel => exact ⟨k + 1, by omega, by go_num, by rw [HB1.out, List.map_append, List.length_append, HBK.out]; exact HX.out, by rw [HL1.out]; exact hown5, HXB.out⟩
        case measure => simp [intOf]; omega
      · have hr := pack_last_le e
        have hlm : (m ++ [q]).length = m.length + 1 := by simp
        rw [e] at HOR HL1
        rw [packMore_snoc] at HL1
        rw [hlm] at HOR
        clear e hlm
        obtain ⟨g2, c2, rfl, hg1, hg2⟩ := own_at HOR.out (by omega)
        have hfz := own_frozen HOR.out (m.length * 2 + 1)
        rw [← base_field] at hfz
        obtain ⟨ad', e', _, c0, c1'⟩ := run_cells (Row.of_own HOR.out) (k := m.length) (by simp)
        cases e'
        have XA := Lib.hid (own_apart hown3 HOR.out (by decide))
        have HBB : Hid (w.heap.size + 1 ≤ ((⟨g2, 0, none⟩ : Addr).add (m.length * 2)).block) := by show _ ≤ _; rw [base_add]; exact hg1
        have STEP : Hid (∀ (w' : World), w'.ownsRow (w.heap.size + 1) 58 2 (.slice (some ⟨g2, 0, none⟩) (m.length + 1) c2) (m.length + 1) (flatR (m ++ [q])) → (w'.setCell ⟨((⟨g2, 0, none⟩ : Addr).add (m.length * 2)).block, ((⟨g2, 0, none⟩ : Addr).add (m.length * 2)).off + 1, none⟩ (.int .i64 (q.2 + (n : Int)))).ownsRow (w.heap.size + 1) 58 2 (.slice (some ⟨g2, 0, none⟩) (m.length + 1) c2) (m.length + 1) (flatR (m ++ [(q.1, q.2 + (n : Int))]))) := fun w' h' => by
          rw [base_add, ← flatR_set]
          exact own_set h' _ _
        generalize hg : (⟨g2, 0, none⟩ : Addr) = ad1 at *
        have HGA := Lib.hid hg
        clear hg
        rw [show (m ++ [q])[m.length]'(by simp) = q by simp] at c0 c1'
        have hww := wrap_small (m.length : Int) (by omega) (by omega)
        have hwn := wrap_small (q.2 + (n : Int)) (by omega) (by omega)
        by_cases hrx : q.1 = l
        · rw [if_pos hrx] at HL1
          subst hrx
          go_wp2_with (at_builtin; refine wpList_append_eq rfl _ _ _ _ rfl _ _ rfl rfl HR3.out ?_)
          go_quiet (fail)
          go_wp2_with fail
          refine wp_region_still_tail 10 (by kernel_rfl) (by kernel_rfl) ?_
          simp only [List.take_succ_cons, List.take_zero, List.drop_succ_cons, List.drop_zero]
          change wpStill _ _ (World.drew (w3.drewN nq)) (fun a' => wpList _ _ _ _ a' (World.drew (w3.drewN nq))) _ _
          have X1 := own_keep hown3 (below_drewN (Below.refl _ w3) (nq + 1)) (Nat.le_refl _)
          have X2 := Lib.hid (STEP.out _ (own_keep HOR.out (below_drewN (Below.refl _ w3) (nq + 1)) (Nat.le_refl _)))
          have X3 : Hid (Below (w.heap.size + 1) w0 (w3.drewN (nq + 1))) := below_drewN HY3.out (nq + 1)
          have e9 : (w3.drewN nq).drew = w3.drewN (nq + 1) := rfl
          rw [e9]
          have c2 : (w3.drewN (nq + 1)).cell? ⟨(ad1.add (m.length * 2)).block, (ad1.add (m.length * 2)).off + 1, none⟩ = some (.int .i64 q.2) := c1'
          have c3 : (w3.drewN (nq + 1)).frozen? ⟨(ad1.add (m.length * 2)).block, (ad1.add (m.length * 2)).off + 1, none⟩ = false := hfz
          have c4 := (blk_three (P3.out.drewN (nq + 1))).2.1
          clear e9 y0 y1 y2 c0 c1' hfz
          generalize w3.drewN (nq + 1) = w4 at *
          have i1 : (0 : Int) ≤ (m.length : Int) := by omega
          have i2 : (m.length : Int) < (m.length : Int) + 1 := by omega
          repeat still_step
          refine wpStill_nil ?_
          have HX := Lib.hid (own_setOther X1 (p := ⟨(ad1.add (m.length * 2)).block, (ad1.add (m.length * 2)).off + 1, none⟩) (fun g' hg' e => XA.out g' hg' (by rw [e]; simp [Value.ownBlock, add_block])) (.int .i64 (q.2 + (n : Int))))
          clear X1
          go_wp2
          go_roundw
          case rel => exact ⟨k + 1, by omega, by go_num, by rw [HB1.out, List.map_append, List.length_append, HBK.out]; exact HX.out, by rw [HL1.out, List.length_append]; exact X2.out, Below.setCell (p := ⟨(ad1.add (m.length * 2)).block, (ad1.add (m.length * 2)).off + 1, none⟩) X3.out HBB.out _⟩
          case measure => simp [intOf]; omega
        · rw [if_neg hrx] at HL1
          have ht : ((q.1 : Int) == (l : Int)) = false := by simp; omega
          go_wp2_with (at_builtin; refine wpList_append_eq rfl _ _ _ _ rfl _ _ rfl rfl HR3.out ?_)
          go_quiet (fail)
          have X1 := own_keep hown3 (below_drewN (Below.refl _ w3) nq) (Nat.le_refl _)
          have X2 := own_keep HOR.out (below_drewN (Below.refl _ w3) nq) (Nat.le_refl _)
          have X3 : Hid (Below (w.heap.size + 1) w0 (w3.drewN nq)) := below_drewN HY3.out nq
          have X4 := Lib.hid (P3.out.drewN nq)
          have z4 : w.heap.size + 1 ≤ (w3.drewN nq).heap.size := z3
          clear y0 y1 y2 c0 c1' hfz
          generalize w3.drewN nq = w4 at *
          obtain ⟨y0, y1, y2⟩ := blk_three X4.out
          have X5 := Lib.hid (own_apart X1 X2 (by decide))
          have X7 := Lib.hid X1
          have X8 := Lib.hid X2
          clear X1 X2
          go_wp2_with (at_builtin; refine wpList_pushN rfl _ _ _ rfl (w.heap.size + 1) 58 _ 2 16 elt_run 58 _ (m.length + 1) (flatR (m ++ [q])) rfl X8.out [.int .u64 (l : Nat), .int .i64 (n : Nat)] _ rfl rfl rfl (by simp [Value.oneCell']) (by unfold maxLen; omega) (by omega) z4 ?_; intro v5 w5 hown5 hb5 ho5; have HX := Lib.hid (own_other X7.out ho5 X5.out); have HXB : Hid (Below (w.heap.size + 1) w0 w5) := X3.out.trans hb5; clear hb5 ho5)
          go_roundw
          case rel => exact ⟨k + 1, by omega, by go_num, by rw [HB1.out, List.map_append, List.length_append, HBK.out]; exact HX.out, by rw [HL1.out, List.length_append, List.length_append, flatR_snoc]; exact hown5, HXB.out⟩
          case measure => simp [intOf]; omega
    · obtain rfl : k = ps.length := by omega
      rw [List.take_length] at hown1 hown2
      obtain ⟨A6, c6, rfl⟩ := own_form hown2
      obtain ⟨A5, c5, rfl⟩ := own_form hown1
      have hcv := str_of_row (P := Try.prog) (c := c5) 51 9 5 Try.underlying51 Try.underlying5 Try.underlying9 (Row.of_own hown1)
      have QT := Lib.hid (Q0.out.1.below hb (by omega))
      have BW := Lib.hid hbw
      clear hb hbw
      obtain ⟨y4, y5, y6, y7⟩ := txt_var QT.out
      go_wp2
      have E := givesX_end (bytesP bs ps) BW.out QT.out (Nat.le_refl _) (Nat.lt_succ_self _) hown2
      refine ret_text1 rfl _ _ w.heap.size _ _ rfl E.1 rfl ?_
      exact E.2
end Go.Proofs.Ytacpfkkbjibmgaa

/-
  The landed store: keep: layer 5.
-/
import Derived.Test.YtacpfkkbjibmgaaPieStore
import Derived.Deep.DeepCutAuto
namespace Go.Proofs.Ytacpfkkbjibmgaa
open Go.RowKit

theorem src_string {w : World} (S : List UInt8) : Src Try.prog 1 9 (.string ⟨S.toArray⟩) S.length (S.map byt) w := by
  have h := Src.ofString (P := Try.prog) w Try.underlying9 ⟨S.toArray⟩
  have e1 : (⟨S.toArray⟩ : ByteArray).size = S.length := by simp [ByteArray.size]
  have e2 : byteCells ⟨S.toArray⟩ = S.map byt := by simp [byteCells, byt]
  rw [e1, e2] at h
  exact h

/-- what keep's caller knows of the blocks that it writes -/
def KeepSet (P : Nat → Prop) (g : Nat) (vb : Value) (k : Nat) : Prop := k = g ∨ (P k ∧ vb.ownBlock = some k)

set_option maxHeartbeats 4000000 in
theorem pieKeep_any (P : Nat → Prop) (g : Nat) (mk m vb vp : Value) (bs S : List UInt8) (A : Option Addr) (c : Nat) (l : List RunP) (w : World) (hP : ∀ k, w.heap.size ≤ k → P k) (hg : Blk w g 54 #[mk, m, vb, vp]) (hgP : P g) (hb : Buf w P vb bs) (hr : RowF w P A (flatR l)) (good : goodT S l = true) (hf : Fits l) (hbs : bs.length ≤ 100000) :
    Calls Try.prog 34 #[.pointer (some ⟨g, 0, none⟩), .agg #[.string ⟨S.toArray⟩, .slice A l.length c]] w fun e w' =>
      ∃ A' c' vb', e = .returned (.slice A' (keepP bs.length l).length c') ∧ w'.ownsRow w.heap.size 73 3 (.slice A' (keepP bs.length l).length c') (keepP bs.length l).length (flatP (keepP bs.length l)) ∧
        Blk w' g 54 #[mk, m, vb', vp] ∧ Buf w' P vb' (bs ++ S) ∧ (∀ k, vb'.ownBlock = some k → vb.ownBlock = some k ∨ w.heap.size ≤ k) ∧ Chg (KeepSet P g vb) w w' := by
  obtain ⟨gz1, gz2, gz3⟩ := goodT_size good
  have hneat := ((goodB_iff l).1 ((goodT_iff S l).1 good).1).2
  have HPOS := Lib.hid (neat_pos hneat)
  have HF := Lib.hid hf
  have hll : l.length ≤ 4096 := by
    have := pack_len (bytesOf l)
    rw [pack_bytesOf hneat] at this
    omega
  have hgl := hg.lt
  have gz3' := Lib.hid gz3
  clear good hneat hf gz3
  -- the boxed text, and the draw
  have hc1 : Chg (fun _ => False) w ((w.alloc (.cells #[.string ⟨S.toArray⟩, .slice A l.length c] 28)).drewN 1) := ((Chg.refl _ w).alloc _).drewN 1
  have HP1 : Hid (∀ k, ((w.alloc (.cells #[.string ⟨S.toArray⟩, .slice A l.length c] 28)).drewN 1).heap.size ≤ k → P k) := fun k hk => hP k (by have := hc1.size; omega)
  have HB1 := Lib.hid (hb.chg hc1 (fun _ h => h.elim) (fun _ _ h => h))
  have HG1 := Lib.hid (hg.chg hc1 (fun h => h))
  have HR1 := Lib.hid (hr.chg (hc1.more (fun _ _ h => h.elim)))
  have HT0 : Hid (Blk ((w.alloc (.cells #[.string ⟨S.toArray⟩, .slice A l.length c] 28)).drewN 1) w.heap.size 28 #[.string ⟨S.toArray⟩, .slice A l.length c]) := (Blk.new _ _ _).drewN 1
  obtain ⟨vb', w1, happ, hbuf, hch, hnew⟩ := run_append_buf HP1.out 9 51 vb bs S HB1.out (.string ⟨S.toArray⟩) (src_string S) (by omega)
  have HAPP := Lib.hid happ
  have hsz : ((w.alloc (.cells #[.string ⟨S.toArray⟩, .slice A l.length c] 28)).drewN 1).heap.size = w.heap.size + 1 := by show (w.alloc _).heap.size = _; simp
  have hvbg : ∀ k, vb.ownBlock = some k → P k → k ≠ g ∧ k < w.heap.size := by
    intro k hk hPk
    obtain ⟨h1, cs, h2⟩ := hb.tag hk hPk
    exact ⟨fun e => by subst e; exact absurd (blk_tags h2 hg) (by decide), h1⟩
  obtain ⟨A1, c1, rfl, hcb1, _⟩ := hbuf.form
  generalize hnn : (bs ++ S).length = nn at *
  have HNN := Lib.hid hnn
  clear hnn
  have HCH := Lib.hid hch
  have HBF := Lib.hid hbuf
  have HNW := Lib.hid hnew
  have hG2 := HG1.out.chg hch (fun h => (hvbg g h.2 h.1).1 rfl)
  have hT2 := HT0.out.chg hch (fun h => by have := (hvbg _ h.2 h.1).2; omega)
  have hR2 := HR1.out.chg (hch.more fun k _ h => h.1)
  clear happ hbuf hch hnew hr
  obtain ⟨A0, c0, hv, hcb, _⟩ := hb.form
  have X2 : Hid ((w.alloc (.cells #[.string ⟨S.toArray⟩, .slice A l.length c] 28)).cell? ⟨g, 2, none⟩ = some (.slice A0 bs.length c0)) := by
    show _ = _
    have := (sto_cells HG1.out).2.2.1
    rw [hv] at this
    exact this
  have Y01 : Hid ((w.alloc (.cells #[.string ⟨S.toArray⟩, .slice A l.length c] 28)).cell? ⟨w.heap.size, 0, none⟩ = some (.string ⟨S.toArray⟩) ∧ (w.alloc (.cells #[.string ⟨S.toArray⟩, .slice A l.length c] 28)).cell? ⟨w.heap.size, 1, none⟩ = some (.slice A l.length c)) := txt_cells HT0.out
  have AP : Hid (∀ ty : TypeId, ty = 51 → (Builtin.append_ #[51, 9] ty #[.slice A0 bs.length c0, .string ⟨S.toArray⟩]).run Try.prog (w.alloc (.cells #[.string ⟨S.toArray⟩, .slice A l.length c] 28)).drew = .ok (.slice A1 nn c1) w1) := by
    intro ty e
    subst e
    have := HAPP.out
    rw [hv] at this
    exact this
  have HC1 : Hid (Chg (KeepSet P g vb) w w1) := (hc1.more (fun _ _ h => h.elim)).trans (HCH.out.more (fun k _ h => .inr h))
  have HNW2 : Hid (∀ k, (Value.slice A1 nn c1).ownBlock = some k → vb.ownBlock = some k ∨ w.heap.size ≤ k) := fun k hk => (HNW.out k hk).imp id (fun h => by omega)
  clear HNW
  have x2w : w.cell? ⟨g, 2, none⟩ = some (.slice A0 bs.length c0) := by
    have := (sto_cells hg).2.2.1
    rw [hv] at this
    exact this
  have hgne : g ≠ w.heap.size := by omega
  clear HAPP HCH HG1 HB1 HT0 HR1 HP1 hc1 hsz hv hb hg
  go_enter Try.func34, Try.ntmps34
  go_upto_region 2 with (fail)
  generalize hW0 : w.alloc (.cells #[.string ⟨S.toArray⟩, .slice A l.length c] 28) = W0 at *
  clear hW0 x2w
  obtain ⟨y0, y1⟩ := Y01.out
  have x2 := X2.out
  have HG2 := Lib.hid hG2
  have HT2 := Lib.hid hT2
  clear hG2 hT2
  have x21 := (sto_cells HG2.out).2.2.1
  have f2 := HG2.out.frozen 2
  have hz1 : w.heap.size < w1.heap.size := HT2.out.lt
  -- the store's cell
  have HG3 : Hid (Blk (w1.setCell ⟨g, 2, none⟩ (.slice A1 nn c1)) g 54 #[mk, m, (.slice A1 nn c1), vp]) := by
    have := HG2.out.set_ 2 (.slice A1 nn c1)
    show Blk _ _ _ _
    simpa using this
  have HB3 : Hid (Buf (w1.setCell ⟨g, 2, none⟩ (.slice A1 nn c1)) P (.slice A1 nn c1) (bs ++ S)) := by
    have hc : Chg (fun k => k = g) w1 (w1.setCell ⟨g, 2, none⟩ (.slice A1 nn c1)) := (Chg.refl (fun k => k = g) w1).setCell (p := ⟨g, 2, none⟩) (fun _ => rfl) (.slice A1 nn c1)
    have hq : ∀ k, (Value.slice A1 nn c1).ownBlock = some k → ¬ k = g := fun k hk e => by
      subst e
      obtain ⟨_, cs, h2⟩ := HBF.out.tag hk hgP
      exact absurd (blk_tags h2 HG2.out) (by decide)
    exact HBF.out.chg hc (fun k e => by subst e; exact hgP) hq
  have HC3 : Hid (Chg (KeepSet P g vb) w (w1.setCell ⟨g, 2, none⟩ (.slice A1 nn c1))) := HC1.out.setCell (p := ⟨g, 2, none⟩) (fun _ => .inl rfl) _
  have HR3 : Hid (RowF (w1.setCell ⟨g, 2, none⟩ (.slice A1 nn c1)) P A (flatR l)) := hR2.chg ((Chg.refl P w1).setCell (p := ⟨g, 2, none⟩) (fun _ => hgP) (.slice A1 nn c1))
  have HT3 : Hid (Blk (w1.setCell ⟨g, 2, none⟩ (.slice A1 nn c1)) w.heap.size 28 #[.string ⟨S.toArray⟩, .slice A l.length c]) := HT2.out.far (by show w.heap.size ≠ g; omega) _
  clear hR2
  go_cut [21] (fun v wx => v = .slice A1 nn c1 ∧ wx = w1.setCell ⟨g, 2, none⟩ (.slice A1 nn c1))
  case first =>
    go_region_law (refine step_append_eq rfl (.tmp 18) (.tmp 20) 51 9 rfl (.slice A0 bs.length c0) (.string ⟨S.toArray⟩) (by simp [Act.eval]) (by simp [Act.eval]) (AP.out _ rfl) ?_)
    all_goals
      go_wp2_with fail
      go_meet
      exact ⟨rfl, rfl⟩
  case rest =>
  obtain ⟨rfl, rfl⟩ := hcut
  obtain ⟨z0, z1⟩ := txt_cells HT3.out
  clear y0 y1 x2 x21 f2
  have HW := Lib.hid (HC3.out.size)
  generalize hw2 : w1.setCell ⟨g, 2, none⟩ (.slice A1 nn c1) = w2 at *
  clear hw2
  go_wp2_with fail
  go_loopw [5, 6, 27] (fun a v i wr => ∃ k : Nat, k ≤ l.length ∧ i = .int .i64 k ∧ a = .int .i64 ((bs.length : Int) + (sumN (l.take k) : Nat)) ∧ wr.ownsRow w2.heap.size 73 3 v k (flatP (keepP bs.length (l.take k))) ∧ Below w2.heap.size w2 wr) (fun _ _ i _ => l.length - (intOf i).toNat)
  case atStart => exact ⟨0, Nat.zero_le _, rfl, by simp [sumN], World.ownsRow_nil _ _ _ _, Below.refl _ _⟩
  case round =>
    obtain ⟨k, hk, rfl, rfl, hown, hbl⟩ := hrel
    have z := hbl.size
    have hle := sumN_take_le l k
    by_cases hlt : k < l.length
    · obtain ⟨ad, rfl, hbl2, d0, d1⟩ := run_cells (HR3.out.row.below hbl) hlt
      have hfk := HF.out l[k] (List.getElem_mem hlt)
      have hpk := HPOS.out l[k] (List.getElem_mem hlt)
      have hs1 := Lib.hid (sumN_succ l k hlt)
      have hle1 := sumN_take_le l (k + 1)
      have HK : Hid (keepP bs.length (l.take (k + 1)) = keepP bs.length (l.take k) ++ [(bs.length + sumN (l.take k), l[k].2.toNat, l[k].1)]) := by
        show _ = _
        rw [List.take_succ_eq_append_getElem hlt, keepP_snoc]
      generalize l[k] = r at *
      obtain ⟨x, n⟩ := r
      dsimp only at *
      obtain ⟨q, rfl⟩ : ∃ q : Nat, n = (q : Int) := ⟨n.toNat, by omega⟩
      rw [Int.toNat_natCast] at HK
      have hq : sumN (l.take (k + 1)) = sumN (l.take k) + q := by have := hs1.out; omega
      have HQ := Lib.hid hq
      have hq2 : q ≤ 4096 := by omega
      clear hs1 hq
      generalize sumN (l.take k) = s at *
      have hw1 := wrap_small ((bs.length : Int) + (s : Int) + (q : Int)) (by omega) (by omega)
      have e1 : Hid ([(.int .i64 ((bs.length : Int) + (s : Int)) : Value), .int .i64 (q : Nat), .int .u64 (x : Nat)] = flatP [(bs.length + s, q, x)]) := by
        show _ = _
        rw [flatP_one]
        simp only
        rw [show ((bs.length + s : Nat) : Int) = (bs.length : Int) + (s : Int) by omega]
      have PB : Hid (Blk (wr.alloc (.cells #[.int .u64 (x : Nat), .int .i64 (q : Nat)] 58)) wr.heap.size 58 #[.int .u64 (x : Nat), .int .i64 (q : Nat)]) := Blk.new _ _ _
      have NE : Hid (∀ g', g' = wr.heap.size → u6.ownBlock ≠ some g') := fun g' eg e => by have := (hown.lt _ e).2; omega
      have hown1 := own_keep hown ((Below.refl wr.heap.size wr).alloc (Nat.le_refl _) (.cells #[.int .u64 (x : Nat), .int .i64 (q : Nat)] 58)) (Nat.le_refl _)
      have hbl1 := hbl.alloc z (.cells #[.int .u64 (x : Nat), .int .i64 (q : Nat)] 58)
      go_wp2_with (at_builtin; refine wpList_pushN rfl _ _ _ rfl w2.heap.size 73 _ 3 24 elt_pie 73 _ _ _ rfl hown1 [.int .i64 ((bs.length : Int) + (s : Int)), .int .i64 (q : Nat), .int .u64 (x : Nat)] (wr.heap.size + 1) (by simp) rfl rfl (by simp [Value.oneCell']) (by unfold maxLen; omega) (by omega) hbl1.size ?_; intro v3 w3 hown3 hb3 ho3; have PB3 : Hid (Blk w3 wr.heap.size 58 #[.int .u64 (x : Nat), .int .i64 (q : Nat)]) := (ho3 _ PB.out.lt (NE.out _ rfl)).trans PB.out; clear ho3; obtain ⟨y0, y1⟩ := txt_cells PB3.out)
      go_roundw
      case rel => exact ⟨k + 1, by omega, by go_num, by rw [HQ.out]; congr 1; omega, by rw [HK.out, flatP_append, ← e1.out]; exact hown3, hbl1.trans hb3⟩
      case measure => simp [intOf]; omega
    · obtain rfl : k = l.length := by omega
      rw [List.take_length] at hown
      obtain ⟨A3, c3, rfl⟩ := own_form hown
      go_wp2
      go_ret
      have hl3 : (keepP bs.length l).length = l.length := keepP_len _ _
      have hbase : w.heap.size ≤ w2.heap.size := HW.out
      refine ⟨A3, c3, .slice A1 nn c1, by rw [hl3]; rfl, by rw [hl3]; exact own_base hown hbase, ?_, ?_, HNW2.out, HC3.out.trans (Chg.of_fresh hbl)⟩
      · exact HG3.out.below hbl HG3.out.lt
      · exact HB3.out.chg (Chg.of_fresh (P := fun _ => False) hbl) (fun _ h => h.elim) (fun _ _ h => h)
end Go.Proofs.Ytacpfkkbjibmgaa

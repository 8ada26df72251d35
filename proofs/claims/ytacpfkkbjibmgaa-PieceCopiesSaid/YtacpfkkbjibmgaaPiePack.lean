/-
  The landed store: pack: layer 5.
-/
import Derived.Test.YtacpfkkbjibmgaaPieCut
namespace Go.Proofs.Ytacpfkkbjibmgaa
open Go.RowKit

theorem good_packed {S : List UInt8} {b : List Nat} (h : b.length = S.length) (h4 : S.length ≤ 4096) : goodT S (pack b) = true :=
  (goodT_iff _ _).2 ⟨goodB_pack (by omega), by rw [bytesOf_pack, h]⟩

/-- a buffer that lies where one may write is one's own -/
theorem Buf.own_of {w : World} {P : Nat → Prop} {v : Value} {bs : List UInt8} (h : Buf w P v bs) (hn : ∀ k, v.ownBlock = some k → P k) : w.ownsRow 0 5 1 v bs.length (bs.map byt) := by
  rcases h with ⟨h, _⟩ | ⟨A, rfl, h, hk⟩
  · exact h
  · rcases A with _ | ad
    · rcases h with h | ⟨ad, e, _⟩
      · have : bs = [] := by simpa using h
        subst this
        exact World.ownsRow_nil _ _ _ _
      · cases e
    · exact absurd (hn ad.block rfl) (hk ad.block rfl).2.1

theorem RowF.of_own {w : World} {P : Nat → Prop} {base e size n c : Nat} {A : Option Addr} {xs : List Value} (h : w.ownsRow base e size (.slice A n c) n xs) (hP : ∀ k, base ≤ k → k < w.heap.size → ¬ P k) : RowF w P A xs := by
  have hr := Row.of_own h
  have hl := fun k hk => h.lt k hk
  rcases hr with hr | ⟨ad, rfl, hb, hc⟩
  · exact .inl hr
  · exact .inr ⟨ad, rfl, hb, hP _ (hl ad.block rfl).1 hb, hc⟩
/-- an owned row's block is of its elements' type -/
theorem own_tag {w : World} {base e size n k : Nat} {v : Value} {xs : List Value} (h : w.ownsRow base e size v n xs) (hk : v.ownBlock = some k) : ∃ cs, Blk w k e cs := by
  rcases h.2 with ⟨rfl, _⟩ | ⟨g1, c1, cur1, rfl, _, hh1, _⟩
  · simp [Value.ownBlock] at hk
  · simp [Value.ownBlock] at hk
    subst hk
    exact ⟨cur1, hh1⟩
theorem own_not {w : World} {base e size n k g T : Nat} {v : Value} {xs : List Value} {cs : Array Value} (h : w.ownsRow base e size v n xs) (hk : v.ownBlock = some k) (hg : Blk w g T cs) (hne : e ≠ T) : k ≠ g := fun h0 => by
  obtain ⟨c, hc⟩ := own_tag h hk
  subst h0
  exact hne (blk_tags hc hg)

set_option maxHeartbeats 2000000 in
theorem piePack_any (P : Nat → Prop) (g most : Nat) (vb vp : Value) (bs : List UInt8) (ps : List PieP) (w : World) (hP : ∀ k, w.heap.size ≤ k → P k) (h : StoW w P g most vb vp bs ps) :
    Calls Try.prog 35 #[.pointer (some ⟨g, 0, none⟩)] w fun e w' => e = .returned (.tuple #[]) ∧
      (∃ vb' vp' bs' ps', StoW w' P g most vb' vp' bs' ps' ∧ bytesP bs' ps' = bytesP bs ps ∧ labsP ps' = labsP ps ∧ bs'.length ≤ most) ∧ Chg (fun k => k = g) w w' := by
  have hgl := h.blk.lt
  have HH := Lib.hid h
  have hSl : (bytesP bs ps).length = lenP ps := bytesP_len h.ok
  have hbl : (labsP ps).length = lenP ps := labsP_len ps
  have hmx := h.max
  have hm4 := h.most4
  have HGOOD := Lib.hid (good_packed (S := bytesP bs ps) (b := labsP ps) (by rw [hSl, hbl]) (by omega))
  have HFIT := Lib.hid (fits_pack (labsP_lt h.ok) (by omega : (labsP ps).length ≤ 4096))
  have HSUM : Hid (sumN (pack (labsP ps)) = lenP ps) := by show _ = _; rw [sumN_pack, hbl]
  have HSL := Lib.hid hSl
  have HPOS := Lib.hid (neat_pos (neat_pack (labsP ps)))
  have HBP := Lib.hid (bytesOf_pack (labsP ps))
  clear h hSl hbl
  generalize hS : bytesP bs ps = S at *
  generalize hL : labsP ps = b at *
  go_enter Try.func35, Try.ntmps35
  go_wp2_with fail
  refine (pieTextM_any P g most vb vp bs ps w HH.out).mono ?_
  rw [hS, hL]
  have HS := Lib.hid hS
  have HL := Lib.hid hL
  clear hS hL
  rintro e w1 ⟨A1, c1, rfl, hown1, hb1⟩
  have z1 := hb1.size
  have H1 := Lib.hid (HH.out.fresh hb1)
  have HB1 := Lib.hid hb1
  have HO1 := Lib.hid hown1
  clear hb1 hown1
  go_upto_region 1 with (fail)
  -- the text's variable
  have T2 : Hid (Blk (w1.alloc (.cells #[.string ⟨S.toArray⟩, .slice A1 (pack b).length c1] 28)) w1.heap.size 28 #[.string ⟨S.toArray⟩, .slice A1 (pack b).length c1]) := Blk.new _ _ _
  have H2 := Lib.hid (H1.out.fresh ((Below.refl w1.heap.size w1).alloc (Nat.le_refl _) (.cells #[.string ⟨S.toArray⟩, .slice A1 (pack b).length c1] 28)))
  have B2 : Hid (Below w.heap.size w (w1.alloc (.cells #[.string ⟨S.toArray⟩, .slice A1 (pack b).length c1] 28))) := HB1.out.alloc z1 _
  have O2 := Lib.hid (own_keep HO1.out ((Below.refl w1.heap.size w1).alloc (Nat.le_refl _) (.cells #[.string ⟨S.toArray⟩, .slice A1 (pack b).length c1] 28)) (Nat.le_refl _))
  generalize w1.alloc (.cells #[.string ⟨S.toArray⟩, .slice A1 (pack b).length c1] 28) = w2 at *
  obtain ⟨_, _, x2, x3⟩ := sto_cells H2.out.blk
  obtain ⟨y0, y1⟩ := txt_cells T2.out
  have fz := H2.out.blk.frozen 2
  have hgne : w1.heap.size ≠ g := by omega
  -- the buffer is let go
  have G3 : Hid (Blk (w2.setCell ⟨g, 2, none⟩ (.slice none 0 0)) g 54 #[.bool true, .int .i64 (most : Nat), .slice none 0 0, vp]) := by
    have := H2.out.blk.set_ 2 (.slice none 0 0)
    show Blk _ _ _ _
    simpa using this
  have T3 : Hid (Blk (w2.setCell ⟨g, 2, none⟩ (.slice none 0 0)) w1.heap.size 28 #[.string ⟨S.toArray⟩, .slice A1 (pack b).length c1]) := T2.out.far (by show w1.heap.size ≠ g; exact hgne) _
  have C3 : Hid (Chg (fun k => k = g) w (w2.setCell ⟨g, 2, none⟩ (.slice none 0 0))) := (Chg.of_fresh (P := fun k => k = g) B2.out).setCell (p := ⟨g, 2, none⟩) (fun _ => rfl) _
  have O3 := Lib.hid (own_setOther O2.out (p := ⟨g, 2, none⟩) (fun k hk e => by have := (O2.out.lt k hk).1; have : k = g := e; omega) (.slice none 0 0))
  have VP : Hid (∀ k, vp.ownBlock = some k → k ≠ g ∧ k < w.heap.size) := fun k hk => ⟨own_not HH.out.pcs hk HH.out.blk (by decide), (HH.out.pcs.lt k hk).2⟩
  have hz2 : w1.heap.size < w2.heap.size := T2.out.lt
  have hz3 : w2.heap.size = (w2.setCell ⟨g, 2, none⟩ (.slice none 0 0)).heap.size := by simp
  go_upto_region 2 with (fail)
  clear x2 x3 y0 y1 fz
  generalize w2.setCell ⟨g, 2, none⟩ (.slice none 0 0) = w3 at *
  obtain ⟨y0, y1⟩ := txt_cells T3.out
  have KP := Lib.hid (pieKeep_any (fun k => k < w.heap.size ∧ P k ∨ w3.heap.size ≤ k) g (.bool true) (.int .i64 (most : Nat)) (.slice none 0 0) vp [] S A1 c1 (pack b) w3 (fun k hk => .inr hk) G3.out (.inl ⟨hgl, HH.out.gP⟩) (.inl ⟨World.ownsRow_nil _ _ _ _, fun k hk => by simp [Value.ownBlock] at hk⟩)
    (RowF.of_own O3.out (fun k h1 h2 h => h.elim (fun h => by omega) (fun h => by omega))) HGOOD.out HFIT.out (by simp))
  have HN5 : Hid (∀ w4 vb' A' n' c', Blk w4 g 54 #[.bool true, .int .i64 (most : Nat), vb', vp] → w4.cell? ⟨g, 3, none⟩ = some vp ∧ w4.frozen? ⟨g, 3, none⟩ = false ∧ Blk (w4.setCell ⟨g, 3, none⟩ (.slice A' n' c')) g 54 #[.bool true, .int .i64 (most : Nat), vb', .slice A' n' c']) := fun w4 vb' A' n' c' h => by
    refine ⟨(sto_cells h).2.2.2, h.frozen 3, ?_⟩
    have := h.set_ 3 (.slice A' n' c')
    simpa using this
  have hG3z : w.heap.size ≤ w3.heap.size := C3.out.size
  clear O3 O2 HO1 T2 T3 H2 H1 HB1 B2 G3
  go_wp2_with (go_at_call 34; refine KP.out.mono ?_; rintro e w4 ⟨A4, c4, vb4, rfl, k1, k2, k3, k4, k5⟩; have K1 := Lib.hid k1; have K3 := Lib.hid k3; have K4 := Lib.hid k4; have K5 := Lib.hid k5; have K2 := Lib.hid k2; have N5 := Lib.hid (HN5.out w4 vb4 A4 (keepP 0 (pack b)).length c4 k2); obtain ⟨x3, f3, _⟩ := N5.out; clear k1 k2 k3 k4 k5 y0 y1)
  go_end0
  have k1 := K1.out
  have k4 : ∀ k, vb4.ownBlock = some k → w3.heap.size ≤ k := fun k hk => (K4.out k hk).elim (fun h => by simp [Value.ownBlock] at h) id
  have hb4 := Buf.own_of K3.out (fun k hk => .inr (k4 k hk))
  rw [List.nil_append] at hb4
  have c5 : Chg (fun k => k = g) w (w4.setCell ⟨g, 3, none⟩ (.slice A4 (keepP 0 (pack b)).length c4)) := (C3.out.trans (K5.out.more (fun k _ h => h.elim id (fun h => by simp [Value.ownBlock] at h)))).setCell (p := ⟨g, 3, none⟩) (fun _ => rfl) _
  have e1 : bytesP S (keepP 0 (pack b)) = S := by
    have := keepP_bytes [] S (pack b) (by rw [HSUM.out, HSL.out]; exact Nat.le_refl _)
    rw [List.nil_append, List.length_nil, HSUM.out, ← HSL.out, List.take_length] at this
    exact this
  have e2 : labsP (keepP 0 (pack b)) = b := by rw [keepP_labs, HBP.out]
  have e3 : OkP S (keepP 0 (pack b)) := by
    have := keepP_ok [] S (pack b) (by rw [HSUM.out, HSL.out]; exact Nat.le_refl _) HPOS.out (fun r hr => (HFIT.out r hr).1)
    exact this
  have e4 : lenP (keepP 0 (pack b)) = lenP ps := by rw [← labsP_len, e2, ← HL.out, labsP_len]
  refine ⟨rfl, ⟨vb4, .slice A4 (keepP 0 (pack b)).length c4, S, keepP 0 (pack b), ⟨N5.out.2.2, HH.out.gP, .inl ⟨own_setOther hb4 (p := ⟨g, 3, none⟩) (fun k hk e => by have := k4 k hk; have : k = g := e; omega) _, fun k hk => hP k (by have := k4 k hk; omega)⟩,
    own_base (own_setOther k1 (p := ⟨g, 3, none⟩) (fun k hk e => by have := (k1.lt k hk).1; have : k = g := e; omega) _) (Nat.zero_le _), fun k hk => hP k (by have := (k1.lt k hk).1; omega), e3, by rw [e4]; exact hmx, hm4, by rw [HSL.out]; omega⟩, ?_, ?_, by rw [HSL.out]; exact hmx⟩, c5⟩
  · exact e1
  · exact e2
end Go.Proofs.Ytacpfkkbjibmgaa

/-
  The landed store: what Put's steps leave: layer 5.
-/
import Derived.Test.YtacpfkkbjibmgaaPiePack
namespace Go.Proofs.Ytacpfkkbjibmgaa
open Go.RowKit

section
variable {w w' : World} {P : Nat → Prop} {g most : Nat} {vb vp : Value} {bs : List UInt8} {ps : List PieP}
theorem StoW.vb_not (h : StoW w P g most vb vp bs ps) {k : Nat} (hk : vb.ownBlock = some k) (hPk : P k) : k < w.heap.size ∧ k ≠ g ∧ vp.ownBlock ≠ some k := by
  obtain ⟨h1, cs, h2⟩ := h.buf.tag hk hPk
  refine ⟨h1, fun e => by subst e; exact absurd (blk_tags h2 h.blk) (by decide), fun e => ?_⟩
  obtain ⟨c, hc⟩ := own_tag h.pcs e
  exact absurd (blk_tags h2 hc) (by decide)
theorem StoW.vp_not (h : StoW w P g most vb vp bs ps) {k : Nat} (hk : vp.ownBlock = some k) : k < w.heap.size ∧ k ≠ g := ⟨(h.pcs.lt k hk).2, own_not h.pcs hk h.blk (by decide)⟩

theorem StoW.split (h : StoW w P g most vb vp bs ps) (hP : ∀ k, w.heap.size ≤ k → P k) {a i : Nat} (hs : SplitP bs ps a g (.bool true) (.int .i64 (most : Nat)) vb vp w i w') :
    ∃ vp' qs, StoW w' P g most vb vp' bs qs ∧ Splits bs ps a qs i ∧ NewOr w vp vp' ∧ Chg (fun k => k = g ∨ vp.ownBlock = some k) w w' := by
  obtain ⟨vp', qs, h1, h2, h3, h4, h5, h6⟩ := hs.ex
  refine ⟨vp', qs, ⟨h2, h.gP, h.buf.chg h6 (fun k hk => hk.elim (fun e => by subst e; exact h.gP) (h.pP k)) (fun k hk hq => ?_), h3, fun k hk => (h4 k hk).elim (h.pP k) (hP k), h1.ok, ?_, h.most4, h.blen⟩, h1, h4, h6⟩
  · have hPk : P k := hq.elim (fun e => by subst e; exact h.gP) (h.pP k)
    obtain ⟨_, n1, n2⟩ := h.vb_not hk hPk
    exact hq.elim n1 n2
  · rw [← labsP_len, h1.labs, labsP_len]; exact h.max
end

/-- behind keep -/
structure AfterKeep (w5 : World) (P : Nat → Prop) (g most : Nat) (vp : Value) (bs : List UInt8) (qs ks : List PieP) (x vb : Value) (w : World) : Prop where
  blk : Blk w g 54 #[.bool true, .int .i64 (most : Nat), vb, vp]
  buf : Buf w P vb bs
  own : w.ownsRow 0 73 3 vp qs.length (flatP qs)
  new : w.ownsRow w5.heap.size 73 3 x ks.length (flatP ks)
  chg : Chg P w5 w

theorem put_keep (P : Nat → Prop) (g most : Nat) (vb vp : Value) (bs X : List UInt8) (qs : List PieP) (A : Option Addr) (c : Nat) (m : List RunP) (w5 : World) (hP : ∀ k, w5.heap.size ≤ k → P k) (h : StoW w5 P g most vb vp bs qs) (hr : RowF w5 P A (flatR m)) (good : goodT X m = true) (hf : Fits m) :
    Calls Try.prog 34 #[.pointer (some ⟨g, 0, none⟩), .agg #[.string ⟨X.toArray⟩, .slice A m.length c]] w5 fun e w' =>
      ∃ A' c' vb', e = .returned (.slice A' (keepP bs.length m).length c') ∧ AfterKeep w5 P g most vp (bs ++ X) qs (keepP bs.length m) (.slice A' (keepP bs.length m).length c') vb' w' := by
  refine (pieKeep_any P g _ _ vb vp bs X A c m w5 hP h.blk h.gP h.buf hr good hf (by have := h.blen; omega)).mono ?_
  rintro e w' ⟨A', c', vb', rfl, h1, h2, h3, h4, h5⟩
  refine ⟨A', c', vb', rfl, ⟨h2, h3, own_chg h.pcs h5 (fun k hk hq => ?_), h1, h5.more (fun k _ hq => hq.elim (fun e => by subst e; exact h.gP) (fun e => e.1))⟩⟩
  rcases hq with hq | ⟨hq1, hq2⟩
  · exact (h.vp_not hk).2 hq
  · exact (h.vb_not hq2 hq1).2.2 hk

/-- behind Replace -/
structure AfterRep (w5 : World) (P : Nat → Prop) (g most : Nat) (vp : Value) (bs : List UInt8) (qs : List PieP) (v vb : Value) (w : World) : Prop where
  blk : Blk w g 54 #[.bool true, .int .i64 (most : Nat), vb, vp]
  buf : Buf w P vb bs
  own : w.ownsRow 0 73 3 v qs.length (flatP qs)
  vP : ∀ k, v.ownBlock = some k → P k
  chg : Chg P w5 w

theorem put_rep (P : Nat → Prop) (g most i j : Nat) (vp x vb : Value) (bs : List UInt8) (qs ks : List PieP) (w5 w : World) (hP : ∀ k, w5.heap.size ≤ k → P k) (hvp : ∀ k, vp.ownBlock = some k → P k ∧ k < w5.heap.size) (h : AfterKeep w5 P g most vp bs qs ks x vb w) (hij : i ≤ j) (hj : j ≤ qs.length) (hn : qs.length ≤ 100000) (hk : ks.length ≤ 100000) :
    Calls Try.prog 33 #[vp, .int .i64 (i : Nat), .int .i64 (j : Nat), x] w fun e w' =>
      ∃ A c n, e = .returned (.slice A n c) ∧ AfterRep w5 P g most vp bs (qs.take i ++ ks ++ qs.drop j) (.slice A n c) vb w' := by
  refine (pieReplace_pies 0 w5.heap.size i j vp x qs ks w h.own h.new (fun k h1 h2 => by have := (hvp k h1).2; have := (h.new.lt k h2).1; omega) (Nat.zero_le _) hij hj hn hk).mono ?_
  rintro e w' ⟨v', rfl, h1, h2, h3⟩
  obtain ⟨A, c, rfl⟩ := own_form h1
  have hz := h.chg.size
  have hc : Chg (fun k => vp.ownBlock = some k) w w' := Chg.of_grown h2 (fun k hk => hk)
  refine ⟨A, c, _, rfl, ⟨blk_grown h.blk h2 (fun e => (own_not h.own e h.blk (by decide)) rfl), h.buf.chg hc (fun k hk => (hvp k hk).1) (fun k hk hq => ?_), h1, fun k hk => (h3 k hk).elim (fun e => (hvp k e).1) (fun e => hP k (by omega)), h.chg.trans (hc.more (fun k _ hk => (hvp k hk).1))⟩⟩
  obtain ⟨_, cs, h4⟩ := h.buf.tag hk (hvp k hq).1
  obtain ⟨c5, h5⟩ := own_tag h.own hq
  exact absurd (blk_tags h4 h5) (by decide)

theorem put_join (P : Nat → Prop) (g most : Nat) (vp v vb : Value) (bs : List UInt8) (qs : List PieP) (w5 w : World) (hgP : P g) (h : AfterRep w5 P g most vp bs qs v vb w) (ok : OkP bs qs) (hmax : lenP qs ≤ most) (hm4 : most ≤ 4096) (hbs : bs.length ≤ 20000) :
    Calls Try.prog 32 #[v] w fun e w' =>
      ∃ A c n, e = .returned (.slice A n c) ∧ w'.cell? ⟨g, 3, none⟩ = some vp ∧ w'.frozen? ⟨g, 3, none⟩ = false ∧ StoW (w'.setCell ⟨g, 3, none⟩ (.slice A n c)) P g most vb (.slice A n c) bs (joinP qs) ∧ Chg P w5 (w'.setCell ⟨g, 3, none⟩ (.slice A n c)) := by
  have hql : qs.length ≤ 4096 := by have := len_le ok; omega
  refine (pieJoined_any bs 0 v qs ok (by omega) (by omega) w h.own).mono ?_
  rintro e w' ⟨v', rfl, h1, h2, h3⟩
  obtain ⟨A, c, rfl⟩ := own_form h1
  have hc : Chg (fun k => v.ownBlock = some k) w w' := Chg.of_grown h2 (fun k hk => hk)
  have hg' := blk_grown h.blk h2 (fun e => (own_not h.own e h.blk (by decide)) rfl)
  have hb' := h.buf.chg hc (fun k hk => h.vP k hk) (fun k hk hq => by
    obtain ⟨_, cs, h4⟩ := h.buf.tag hk (h.vP k hq)
    obtain ⟨c5, h5⟩ := own_tag h.own hq
    exact absurd (blk_tags h4 h5) (by decide))
  obtain ⟨j1, j2, j3, _⟩ := joinP_says ok qs.length (Nat.le_refl _)
  rw [List.take_length] at j1 j2 j3
  refine ⟨A, c, _, rfl, (sto_cells hg').2.2.2, hg'.frozen 3, ⟨?_, hgP, ?_, ?_, fun k hk => h.vP k (by rw [← h3]; exact hk), j1, by rw [← labsP_len, j3, labsP_len]; exact hmax, hm4, hbs⟩, (h.chg.trans (hc.more (fun k _ hk => h.vP k hk))).setCell (p := ⟨g, 3, none⟩) (fun _ => hgP) _⟩
  · have := hg'.set_ 3 (.slice A (joinP qs).length c)
    simpa using this
  · refine hb'.chg ((Chg.refl (fun k => k = g) w').setCell (p := ⟨g, 3, none⟩) (fun _ => rfl) _) (fun k e => by subst e; exact hgP) (fun k hk e => ?_)
    subst e
    obtain ⟨_, cs, h4⟩ := hb'.tag hk hgP
    exact absurd (blk_tags h4 hg') (by decide)
  · exact own_setOther h1 (p := ⟨g, 3, none⟩) (fun k hk e => (own_not h1 hk hg' (by decide)) e) _
end Go.Proofs.Ytacpfkkbjibmgaa

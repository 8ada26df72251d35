/-
  What the landed store says: layer 5.
-/
import Derived.Test.YtacpfkkbjibmgaaPieCopy
import Derived.Test.YtacpfkkbjibmgaaM04s
namespace Go.Proofs.Ytacpfkkbjibmgaa
open Go.RowKit

/-- a store that holds the bytes S with the labels b, at most so many; O: its own blocks -/
def Sto (w : World) (O : Nat → Prop) (g most : Nat) (S : List UInt8) (b : List Nat) : Prop :=
  (∃ vb vp bs ps, StoW w O g most vb vp bs ps ∧ bs.length ≤ 2 * most ∧ bytesP bs ps = S ∧ labsP ps = b) ∧ ∀ k, O k → k < w.heap.size
section
variable {w w' : World} {O : Nat → Prop} {g most : Nat} {S : List UInt8} {b : List Nat}
theorem Sto.fresh (h : Sto w O g most S b) (hb : Below w.heap.size w w') : Sto w' O g most S b := by
  obtain ⟨⟨vb, vp, bs, ps, h1, h2, h3, h4⟩, h5⟩ := h
  exact ⟨⟨vb, vp, bs, ps, h1.fresh hb, h2, h3, h4⟩, fun k hk => Nat.lt_of_lt_of_le (h5 k hk) hb.size⟩
theorem Sto.lens (h : Sto w O g most S b) : b.length = S.length ∧ S.length ≤ most ∧ most ≤ 4096 ∧ (∀ x ∈ b, x < 18446744073709551616) ∧ g < w.heap.size := by
  obtain ⟨⟨vb, vp, bs, ps, h1, h2, rfl, rfl⟩, _⟩ := h
  rw [bytesP_len h1.ok, labsP_len]
  exact ⟨rfl, h1.max, h1.most4, labsP_lt h1.ok, h1.blk.lt⟩
theorem Sto.good (h : Sto w O g most S b) : goodT S (pack b) = true := by
  obtain ⟨h1, h2, h3, _⟩ := h.lens
  exact good_packed h1 (by omega)
theorem Sto.fits (h : Sto w O g most S b) : Fits (pack b) ∧ (pack b).length ≤ 4096 ∧ bytesOf (pack b) = b := by
  obtain ⟨h1, h2, h3, h4, _⟩ := h.lens
  have := pack_len b
  exact ⟨fits_pack h4 (by omega), by omega, bytesOf_pack b⟩
theorem Sto.lt (h : Sto w O g most S b) : ∀ k, O k → k < w.heap.size := h.2

theorem stoText_any (h : Sto w O g most S b) : Calls Try.prog 16 #[.pointer (some ⟨g, 0, none⟩)] w (GivesX w S (pack b)) := by
  obtain ⟨⟨vb, vp, bs, ps, h1, h2, rfl, rfl⟩, _⟩ := h
  exact pieTextM_any O g most vb vp bs ps w h1
theorem stoCut_any (h : Sto w O g most S b) (f t : Int) : Calls Try.prog 11 #[.pointer (some ⟨g, 0, none⟩), .int .i64 f, .int .i64 t] w (GivesT w (cutS S b f t)) := by
  obtain ⟨⟨vb, vp, bs, ps, h1, h2, rfl, rfl⟩, _⟩ := h
  exact pieCut_any O g most vb vp bs ps f t w h1
theorem stoLen_any (h : Sto w O g most S b) : Calls Try.prog 17 #[.pointer (some ⟨g, 0, none⟩)] w fun e w' => e = .returned (.int .i64 (S.length : Nat)) ∧ Below w.heap.size w w' := by
  obtain ⟨⟨vb, vp, bs, ps, h1, h2, rfl, rfl⟩, _⟩ := h
  rw [bytesP_len h1.ok]
  obtain ⟨A, c, rfl⟩ := own_form h1.pcs
  exact pieLen_any g w.heap.size A c _ vb ps w h1.blk (Nat.le_refl _) (Row.of_own h1.pcs) (by have := h1.len; omega) (by have := h1.max; have := h1.most4; omega)
theorem stoRoom_any (h : Sto w O g most S b) : Calls Try.prog 18 #[.pointer (some ⟨g, 0, none⟩)] w fun e w' => e = .returned (.int .i64 ((most - S.length : Nat) : Int)) ∧ Below w.heap.size w w' := by
  obtain ⟨⟨vb, vp, bs, ps, h1, h2, rfl, rfl⟩, _⟩ := h
  rw [bytesP_len h1.ok]
  obtain ⟨A, c, rfl⟩ := own_form h1.pcs
  exact pieRoom_any g w.heap.size A c most vb ps w h1.blk (Nat.le_refl _) (Row.of_own h1.pcs) (by have := h1.len; omega) h1.max h1.most4
theorem stoCopy_any (h : Sto w O g most S b) : Calls Try.prog 19 #[.pointer (some ⟨g, 0, none⟩)] w fun e w' => ∃ g' O', e = .returned (.pointer (some ⟨g', 0, none⟩)) ∧ Below w.heap.size w w' ∧ Sto w' O' g' most S b ∧ ∀ k, O' k → w.heap.size ≤ k := by
  obtain ⟨⟨vb, vp, bs, ps, h1, h2, h3, h4⟩, _⟩ := h
  refine (pieCopy_any O g most vb vp bs ps w h1).mono ?_
  rintro e w' ⟨g', rfl, hz, hb, vb', vp', h5⟩
  exact ⟨g', _, rfl, hb, ⟨⟨vb', vp', bs, ps, h5, h2, h3, h4⟩, fun k hk => hk.2⟩, fun k hk => hk.1⟩
theorem stoNew_any (n : Nat) (hn : n ≤ 4096) (w : World) : Calls Try.prog 9 #[.int .i64 (n : Nat)] w fun e w' => ∃ O', e = .returned (.pointer (some ⟨w.heap.size, 0, none⟩)) ∧ Below w.heap.size w w' ∧ Sto w' O' w.heap.size n [] [] ∧ ∀ k, O' k → w.heap.size ≤ k := by
  refine (pieNew_yes (n : Int) (by omega) (by omega) w).mono ?_
  rintro e w' ⟨rfl, rfl⟩
  have hz : (w.alloc (.cells #[.bool true, .int .i64 (n : Nat), .slice none 0 0, .slice none 0 0] 54)).heap.size = w.heap.size + 1 := by simp
  refine ⟨fun k => k = w.heap.size, rfl, (Below.refl _ w).alloc (Nat.le_refl _) _, ⟨⟨.slice none 0 0, .slice none 0 0, [], [], ⟨Blk.new _ _ _, rfl, .inl ⟨World.ownsRow_nil _ _ _ _, fun k hk => by simp [Value.ownBlock] at hk⟩, World.ownsRow_nil _ _ _ _, fun k hk => by simp [Value.ownBlock] at hk, OkP.nil, by simp [lenP], hn, by simp⟩, by simp, rfl, rfl⟩, fun k hk => by subst hk; rw [hz]; omega⟩, fun k hk => by subst hk; exact Nat.le_refl _⟩
end

/-- how a Put of a text ends: its error -/
def putE (S : List UInt8) (most : Nat) (f t : Int) (X : List UInt8) (m : List RunP) : Nat :=
  if goodT X m = true ∧ 0 ≤ f ∧ f ≤ t ∧ t ≤ (S.length : Int) then (if (S.length : Int) - (t - f) + (X.length : Int) ≤ (most : Int) then 0 else 4) else 2
def putS (S : List UInt8) (most : Nat) (f t : Int) (X : List UInt8) (m : List RunP) : List UInt8 := if putE S most f t X m = 0 then S.take f.toNat ++ X ++ S.drop t.toNat else S
def putB (S : List UInt8) (b : List Nat) (most : Nat) (f t : Int) (X : List UInt8) (m : List RunP) : List Nat := if putE S most f t X m = 0 then b.take f.toNat ++ bytesOf m ++ b.drop t.toNat else b

theorem stoPut_any {w : World} {O : Nat → Prop} {g most : Nat} {S : List UInt8} {b : List Nat} (h : Sto w O g most S b) (A : Option Addr) (c : Nat) (X : List UInt8) (m : List RunP) (f t : Int) (hX : X.length ≤ maxLen) (hf : Fits m) (hl : m.length ≤ maxLen) (hr : RowF w O A (flatR m)) :
    Calls Try.prog 15 #[.pointer (some ⟨g, 0, none⟩), .int .i64 f, .int .i64 t, .agg #[.string ⟨X.toArray⟩, .slice A m.length c]] w fun e w' => ∃ O', e = .returned (.int .i64 (putE S most f t X m : Nat)) ∧ Sto w' O' g most (putS S most f t X m) (putB S b most f t X m) ∧ (∀ k, O' k → O k ∨ w.heap.size ≤ k) ∧ Chg O w w' := by
  have hall := h
  obtain ⟨⟨vb, vp, bs, ps, h1, h2, rfl, rfl⟩, hO⟩ := h
  have hlen := bytesP_len h1.ok
  -- one may write what is new, too
  have hP : ∀ k, w.heap.size ≤ k → (fun k => O k ∨ w.heap.size ≤ k) k := fun k hk => .inr hk
  have h1' : StoW w (fun k => O k ∨ w.heap.size ≤ k) g most vb vp bs ps := by
    refine ⟨h1.blk, .inl h1.gP, ?_, h1.pcs, fun k hk => .inl (h1.pP k hk), h1.ok, h1.max, h1.most4, h1.blen⟩
    rcases h1.buf with ⟨ho, hp⟩ | ⟨A0, e, hrow, hn⟩
    · exact .inl ⟨ho, fun k hk => .inl (hp k hk)⟩
    · exact .inr ⟨A0, e, hrow.less (fun k hk h => h.elim id (fun h => by omega)), fun k hk => ⟨(hn k hk).1, fun h => h.elim (hn k hk).2.1 (fun h => by have := (hn k hk).1; omega), (hn k hk).2.2⟩⟩
  have hr' : RowF w (fun k => O k ∨ w.heap.size ≤ k) A (flatR m) := hr.less (fun k hk h => h.elim id (fun h => by omega))
  have ha : PutArg (fun k => O k ∨ w.heap.size ≤ k) A X m w := ⟨hX, hf, hl, hr'⟩
  have hback : ∀ {w' : World}, Chg (fun k => O k ∨ w.heap.size ≤ k) w w' → Chg O w w' := fun hc => hc.more (fun k hk h => h.elim id (fun h => by omega))
  by_cases hok : goodT X m = true ∧ 0 ≤ f ∧ f ≤ t ∧ t ≤ ((bytesP bs ps).length : Int)
  · by_cases hroom : ((bytesP bs ps).length : Int) - (t - f) + (X.length : Int) ≤ (most : Int)
    · have he : putE (bytesP bs ps) most f t X m = 0 := by unfold putE; rw [if_pos hok, if_pos hroom]
      obtain ⟨hg, h0, hft, ht⟩ := hok
      obtain ⟨F, rfl⟩ : ∃ F : Nat, f = (F : Int) := ⟨f.toNat, by omega⟩
      obtain ⟨T, rfl⟩ : ∃ T : Nat, t = (T : Int) := ⟨t.toNat, by omega⟩
      refine (piePut_done _ g most vb vp bs X ps A c m F T w h1' ha hg (by omega) (by omega) (by omega) hP h2).mono ?_
      rintro e w' ⟨rfl, ⟨vb', vp', bs', ps', s1, s2, s3, s4⟩, hc⟩
      refine ⟨fun k => (O k ∨ w.heap.size ≤ k) ∧ k < w'.heap.size, by rw [he]; rfl, ⟨⟨vb', vp', bs', ps', ?_, s4, ?_, ?_⟩, fun k hk => hk.2⟩, fun k hk => hk.1, hback hc⟩
      · refine ⟨s1.blk, ⟨s1.gP, s1.blk.lt⟩, ?_, s1.pcs, fun k hk => ⟨s1.pP k hk, (s1.pcs.lt k hk).2⟩, s1.ok, s1.max, s1.most4, s1.blen⟩
        rcases s1.buf with ⟨ho, hp⟩ | ⟨A0, e, hrow, hn⟩
        · exact .inl ⟨ho, fun k hk => ⟨hp k hk, (ho.lt k hk).2⟩⟩
        · exact .inr ⟨A0, e, hrow.less (fun k _ h => h.1), fun k hk => ⟨(hn k hk).1, fun h => (hn k hk).2.1 h.1, (hn k hk).2.2⟩⟩
      · rw [s2]; unfold putS; rw [if_pos he, Int.toNat_natCast, Int.toNat_natCast]
      · rw [s3]; unfold putB; rw [if_pos he, Int.toNat_natCast, Int.toNat_natCast]
    · have he : putE (bytesP bs ps) most f t X m = 4 := by unfold putE; rw [if_pos hok, if_neg hroom]
      obtain ⟨hg, h0, hft, ht⟩ := hok
      obtain ⟨F, rfl⟩ : ∃ F : Nat, f = (F : Int) := ⟨f.toNat, by omega⟩
      obtain ⟨T, rfl⟩ : ∃ T : Nat, t = (T : Int) := ⟨t.toNat, by omega⟩
      refine (piePut_full _ g most vb vp bs X ps A c m F T w h1' ha hg (by omega) (by omega) (by omega)).mono ?_
      rintro e w' ⟨rfl, hb⟩
      refine ⟨O, by rw [he]; rfl, ?_, fun k hk => .inl hk, Chg.of_fresh hb⟩
      unfold putS putB
      rw [if_neg (by rw [he]; omega), if_neg (by rw [he]; omega)]
      exact hall.fresh hb
  · have he : putE (bytesP bs ps) most f t X m = 2 := by unfold putE; rw [if_neg hok]
    refine (piePut_arg _ g most vb vp bs X ps A c m f t w h1' ha (by rw [← hlen]; exact hok)).mono ?_
    rintro e w' ⟨rfl, hb⟩
    refine ⟨O, by rw [he]; rfl, ?_, fun k hk => .inl hk, Chg.of_fresh hb⟩
    unfold putS putB
    rw [if_neg (by rw [he]; omega), if_neg (by rw [he]; omega)]
    exact hall.fresh hb
end Go.Proofs.Ytacpfkkbjibmgaa

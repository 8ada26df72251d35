/-
  slices.Insert at pieces: a new row, and all ways: layer 5.
-/
import Derived.Test.YtacpfkkbjibmgaaPieIns2
namespace Go.Proofs.Ytacpfkkbjibmgaa
open Go.RowKit

theorem Held.below {w w' : World} {g n c : Nat} {cs L : List Value} (h : Held w g n c cs L) (hg : w.grownBy w' none) : Held w' g n c cs L := ⟨(hg.block g h.blk.lt (by simp)).trans h.blk, h.fit, h.max, h.len, h.cells⟩
theorem grown_none {w w' : World} (h : w.grownBy w' none) (row : Option Nat) : w.grownBy w' row := ⟨h.os, h.tape, h.output, h.size, fun k hk _ => h.block k hk (by simp)⟩
theorem grown_new {a b c : World} {g : Nat} {row : Option Nat} (h : a.grownBy b row) (h' : b.grownBy c (some g)) (hg : a.heap.size ≤ g) : a.grownBy c row :=
  ⟨h'.os.trans h.os, h'.tape.trans h.tape, h'.output.trans h.output, Nat.le_trans h.size h'.size, fun k hk hne => (h'.block k (Nat.lt_of_lt_of_le hk h.size) (by simp; omega)).trans (h.block k hk hne)⟩

set_option maxHeartbeats 2000000 in
theorem pieInsert_grow (g n c gx m xc i : Nat) (cs L ds Lx : List Value) (w : World) (hs : Held w g n c cs L) (hx : Held w gx m xc ds Lx) (hi : i < n) (hm : 0 < m) (hroom : c < n + m) (hn : n ≤ 100000) (hm2 : m ≤ 100000)
    (hcl : cs.length = n * 3) (hdl : ds.length = m * 3) (h1c : ∀ u ∈ cs, u.oneCell' = true) (h1d : ∀ u ∈ ds, u.oneCell' = true) :
    Calls Try.prog 40 #[.slice (some ⟨g, 0, none⟩) n c, .int .i64 (i : Nat), .slice (some ⟨gx, 0, none⟩) m xc] w fun e w' =>
      ∃ G, e = .returned (.slice (some ⟨w.heap.size, 0, none⟩) (n + m) G) ∧ (∃ L', Held w' w.heap.size (n + m) G (cs.take (i * 3) ++ ds ++ cs.drop (i * 3)) L') ∧ w.grownBy w' none := by
  have hmx := hs.max
  have hfit := hs.fit
  unfold maxLen at hmx
  obtain ⟨G, LR, w1, hr, hH, hLR, hg1⟩ := run_append_make hs hcl (Nat.le_of_lt hi) (n + m - i) (by omega) (by omega) (by omega) 52
  have ein : i + (n + m - i) = n + m := by omega
  rw [ein] at hr hH
  have hGm := hH.max
  unfold maxLen at hGm
  have hGf := hH.fit
  have hkk : ((n + m - i : Nat) : Int) = (n : Int) + (m : Int) - (i : Int) := by omega
  rw [hkk] at hr
  have hgl := hs.blk.lt
  have hgxl := hx.blk.lt
  have HG1 := Lib.hid hg1
  have HH := Lib.hid hH
  have HLR := Lib.hid hLR
  have HR := Lib.hid hr
  have HS := Lib.hid (hs.below hg1)
  have HX := Lib.hid (hx.below hg1)
  have hdl2 : (cs.drop (i * 3)).length = (n - i) * 3 := by rw [List.length_drop, hcl]; omega
  have HDL := Lib.hid hdl
  have HDL2 := Lib.hid hdl2
  have HLL := Lib.hid hH.len
  clear hs hx hr hH hg1 hLR ein hkk hdl hdl2 hcl
  obtain ⟨gn, hgn⟩ : ∃ gn, gn = w.heap.size := ⟨_, rfl⟩
  rw [← hgn] at HH HR ⊢
  have hgne : g ≠ gn := by omega
  have hgxne : gx ≠ gn := by omega
  have HGN := Lib.hid hgn
  clear hgn
  -- the new elements
  have hcpA : Hid (∀ ty dc, (Builtin.copy_ #[52, 52] ty #[.slice (some ⟨gn, i * 3, none⟩) (n + m - i) dc, .slice (some ⟨gx, 0, none⟩) m xc]).run Try.prog w1 = .ok (goInt m) (w1.setRow gn (splice LR (i * 3) ds).toArray)) := fun ty dc =>
    run_copy_pie HH.out.blk (by simp only [Nat.min_def]; split <;> omega) ds HDL.out (by have := HX.out.get 0; simpa using this) (by rw [HDL.out, HLL.out]; omega) h1d
  have HB2 : Hid (Blk ((w1.setRow gn (splice LR (i * 3) ds).toArray).drew) gn 73 (splice LR (i * 3) ds).toArray) := (HH.out.blk.setRow _).drew
  have HS2 : Hid (Held ((w1.setRow gn (splice LR (i * 3) ds).toArray).drew) g n c cs L) := ⟨(HS.out.blk.rowFar hgne _).drew, HS.out.fit, HS.out.max, HS.out.len, HS.out.cells⟩
  have HG2 : Hid (w.grownBy ((w1.setRow gn (splice LR (i * 3) ds).toArray).drew) none) := grown_drew (grown_new HG1.out (grown_setRow _ _ _) (by rw [HGN.out]; exact Nat.le_refl _)) 1
  generalize hW1 : w1.setRow gn (splice LR (i * 3) ds).toArray = W1 at *
  clear hW1
  have hcpB : Hid (∀ ty dc sc, (Builtin.copy_ #[52, 52] ty #[.slice (some ⟨gn, (i + m) * 3, none⟩) (n + m - (i + m)) dc, .slice (some ⟨g, i * 3, none⟩) (n - i) sc]).run Try.prog W1.drew = .ok (goInt (n - i : Nat)) (W1.drew.setRow gn (splice (splice LR (i * 3) ds) ((i + m) * 3) (cs.drop (i * 3))).toArray)) := fun ty dc sc =>
    run_copy_pie HB2.out (by simp only [Nat.min_def]; split <;> omega) _ HDL2.out (HS2.out.get (i * 3)) (by rw [length_splice _ _ _ (by rw [HDL.out, HLL.out]; omega), HDL2.out, HLL.out]; omega) (fun u hu => h1c u (List.mem_of_mem_drop hu))
  have hz1 : ¬ ((m : Int) = 0) := by omega
  have hz2 : ¬ ((i : Int) = (n : Int)) := by omega
  have hz3 : (c : Int) < (n : Int) + (m : Int) := by omega
  have hw1 : IntKind.i64.wrap ((i : Int) + (m : Int)) = (i : Int) + (m : Int) := wrap_small _ (by omega) (by omega)
  have hw2 : IntKind.i64.wrap ((n : Int) + (m : Int)) = (n : Int) + (m : Int) := wrap_small _ (by omega) (by omega)
  have hw3 : IntKind.i64.wrap ((n : Int) + (m : Int) - (i : Int)) = (n : Int) + (m : Int) - (i : Int) := wrap_small _ (by omega) (by omega)
  have hb1 : (0 : Int) ≤ (i : Int) + (m : Int) := by omega
  have hb0 : (i : Int) ≤ (n : Int) := by omega
  have htn : ((i : Int) + (m : Int)).toNat = i + m := by omega
  have hb3 : (i : Int) ≤ (n : Int) + (m : Int) := by omega
  have hb5 : (i : Int) + (m : Int) ≤ (n : Int) + (m : Int) := by omega
  have hb6 : (i : Int) ≤ (c : Int) := by omega
  have hGi : ¬ (G = i) := by omega
  have hGim : ¬ (G = i + m) := by omega
  have hci : ¬ (c = i) := by omega
  go_enter Try.func40, Try.ntmps40
  go_wp2_with (first
    | (at_builtin; refine wpList_append_eq rfl _ _ _ _ rfl _ _ rfl rfl HR.out ?_)
    | (with_reducible refine wpList_copy_eq rfl (.tmp 43) (.tmp 44) 52 52 rfl _ _ rfl rfl (hcpA.out _ _) ?_))
  go_region_law (refine step_copy_eq rfl (.tmp 50) (.tmp 53) 52 52 rfl (.slice (some ⟨gn, (i + m) * 3, none⟩) (n + m - (i + m)) (G - (i + m))) (.slice (some ⟨g, i * 3, none⟩) (n - i) (c - i)) (by simp [Act.eval, Act.put]) (by simp [Act.eval, Act.put]) (hcpB.out _ _ _) ?_)
  go_wp2
  go_ret
  have F := fill_take LR ds (cs.drop (i * 3)) (i * 3) (by rw [HDL.out, HDL2.out, HLL.out]; omega)
  rw [HDL.out, ← Nat.add_mul, HDL2.out] at F
  refine ⟨G, rfl, ⟨_, HB2.out.setRow _, by omega, HH.out.max, by rw [F.2, HLL.out], ?_⟩, grown_new HG2.out (grown_setRow _ _ _) (by rw [HGN.out]; exact Nat.le_refl _)⟩
  have e : (n + m) * 3 = (i + m) * 3 + (n - i) * 3 := by omega
  rw [e, F.1, HLR.out]

/-- slices.Insert: whatever is inserted, at whatever place -/
theorem pieInsert_any (b1 b2 n m i : Nat) (v x : Value) (cs ds : List Value) (w : World) (hs : w.ownsRow b1 73 3 v n cs) (hx : w.ownsRow b2 73 3 x m ds) (hne : ∀ g, v.ownBlock = some g → x.ownBlock ≠ some g) (hb1 : b1 ≤ w.heap.size) (hi : i ≤ n) (hn : n ≤ 100000) (hm2 : m ≤ 100000)
    (h1c : ∀ u ∈ cs, u.oneCell' = true) (h1d : ∀ u ∈ ds, u.oneCell' = true) :
    Calls Try.prog 40 #[v, .int .i64 (i : Nat), x] w fun e w' =>
      ∃ v', e = .returned v' ∧ w'.ownsRow b1 73 3 v' (n + m) (cs.take (i * 3) ++ ds ++ cs.drop (i * 3)) ∧ w.grownBy w' v.ownBlock ∧ NewOr w v v' := by
  have hcl := hs.1
  have hdl := hx.1
  by_cases hm : m = 0
  · subst hm
    obtain rfl : ds = [] := List.eq_nil_of_length_eq_zero (by simpa using hdl)
    obtain ⟨A, c, rfl⟩ := own_form hs
    obtain ⟨B, xc, rfl⟩ := own_form hx
    refine (pieInsert_none A n c i hi B xc w).mono ?_
    rintro e w' ⟨rfl, rfl⟩
    exact ⟨_, rfl, by simpa using hs, grown_refl _ _, fun g hg => .inl hg⟩
  · by_cases hin : i = n
    · subst hin
      obtain ⟨A, c, hv⟩ := own_form hs
      obtain ⟨B, xc, rfl⟩ := own_form hx
      have := pieInsert_end b1 b2 i c m xc A B v hv cs ds w hs hx hb1 (by omega) hn hm2 h1d
      rw [← hv] at this
      refine this.mono ?_
      rintro e w' ⟨v', rfl, h1, h2, h3⟩
      refine ⟨v', rfl, ?_, h2, h3⟩
      rw [List.take_of_length_le (by omega), List.drop_of_length_le (by omega), List.append_nil]
      exact h1
    · have hv : v ≠ .slice none 0 0 := fun e => by
        subst e
        rcases hs.2 with ⟨_, h⟩ | ⟨g, cap, cur, h, _⟩
        · omega
        · simp at h
      have hx0 : x ≠ .slice none 0 0 := fun e => by
        subst e
        rcases hx.2 with ⟨_, h⟩ | ⟨g, cap, cur, h, _⟩
        · omega
        · simp at h
      obtain ⟨g, c, L, rfl, hbg, hS⟩ := held_of hs hv
      obtain ⟨gx, xc, Lx, rfl, _, hX⟩ := held_of hx hx0
      have hne' : gx ≠ g := fun e => hne g rfl (by rw [e]; rfl)
      have hl : (cs.take (i * 3) ++ ds ++ cs.drop (i * 3)).length = (n + m) * 3 := by
        rw [List.length_append, List.length_append, List.length_take, List.length_drop, hcl, hdl]; omega
      by_cases hroom : n + m ≤ c
      · refine (pieInsert_shift g n c gx m xc i cs L ds Lx w hS hX hne' (by omega) (by omega) hroom hn hm2 hcl hdl h1c h1d).mono ?_
        rintro e w' ⟨rfl, ⟨L', hL⟩, hg⟩
        exact ⟨_, rfl, hL.own hbg hl, hg, fun k hk => .inl hk⟩
      · refine (pieInsert_grow g n c gx m xc i cs L ds Lx w hS hX (by omega) (by omega) (by omega) hn hm2 hcl hdl h1c h1d).mono ?_
        rintro e w' ⟨G, rfl, ⟨L', hL⟩, hg⟩
        exact ⟨_, rfl, hL.own hb1 hl, grown_none hg _, fun k hk => .inr (by simp [Value.ownBlock] at hk; omega)⟩
end Go.Proofs.Ytacpfkkbjibmgaa

/-
  Contracts of the document's own answers, layer 8: below.
-/
import Derived.Test.YtfeaffabminpfaaHsPath
namespace Go.Proofs.Ytfeaffabminpfaa
open Go.RowKit

theorem own_far {w : World} {base e size n : Nat} {v : Value} {xs : List Value} (h : w.ownsRow base e size v n xs) {p : Addr} (hp : v.ownBlock ≠ some p.block) (u : Value) : (w.setCell p u).ownsRow base e size v n xs := by
  refine ⟨h.1, ?_⟩
  rcases h.2 with h | ⟨g, cap, cur, rfl, hg, hh, h⟩
  · exact .inl h
  · exact .inr ⟨g, cap, cur, rfl, hg, (heap_setCell_other w p g u (fun e => hp (by rw [← e]; rfl))).trans hh, h⟩
/-- a list of states, whose row is the call's own -/
def GivesL (w : World) (L : List StP) (e : Ending) (w' : World) : Prop :=
  ∃ A c, e = .returned (.slice A L.length c) ∧ w'.ownsRow w.heap.size 76 7 (.slice A L.length c) L.length (flatS L) ∧ Below w.heap.size w w'
def inS (n1 n up : Int) (out : List StP) : Bool := n1 == n || out.any fun o => o.n == up
theorem inS_iff (n1 n up : Int) (out : List StP) : inS n1 n up out = true ↔ n1 = n ∨ ∃ o ∈ out, o.n = up := by simp [inS]
theorem inS_snoc (n1 n up : Int) (out : List StP) (o : StP) : inS n1 n up (out ++ [o]) = (inS n1 n up out || o.n == up) := by simp [inS, Bool.or_assoc]
theorem below_yes {n : Int} {out : List StP} {x : StP} (h : x.n = n ∨ ∃ o ∈ out, o.n = x.up) : belowStep n out x = out ++ [if x.n = n then ⟨x.n, -1, x.e⟩ else x] := if_pos h
theorem below_no {n : Int} {out : List StP} {x : StP} (h : ¬ (x.n = n ∨ ∃ o ∈ out, o.n = x.up)) : belowStep n out x = out := if_neg h

set_option maxRecDepth 8000 in
set_option maxHeartbeats 4000000 in
theorem refHBelow_any (A : Option Addr) (c B : Nat) (L : List StP) (now next depth n : Int) (hL : L.length ≤ 1000) (w : World) (hB : B ≤ w.heap.size) (h : Row w B A (flatS L)) :
    Calls Try.prog 40 #[.agg #[.slice A L.length c, .int .i64 now, .int .i64 next, .int .i64 depth], .int .i64 n] w (GivesL w (belowS L n)) := by
  have K := Lib.hid ((blk_box (T := 28) (cs := #[.slice A L.length c, .int .i64 now, .int .i64 next, .int .i64 depth]) w).and ((bel_box (Below.refl w.heap.size w) (.cells #[.slice A L.length c, .int .i64 now, .int .i64 next, .int .i64 depth] 28)).and ((grow_rowB h hB).alloc (.cells #[.slice A L.length c, .int .i64 now, .int .i64 next, .int .i64 depth] 28))))
  have hz : (w.alloc (.cells #[.slice A L.length c, .int .i64 now, .int .i64 next, .int .i64 depth] 28)).heap.size = w.heap.size + 1 := by simp
  clear h
  go_enter Try.func40, Try.ntmps40
  go_wp2_with fail
  generalize w.alloc (.cells #[.slice A L.length c, .int .i64 now, .int .i64 next, .int .i64 depth] 28) = wb at *
  go_loopw [5, 6] (fun v i wr => ∃ (k : Nat) (out : List StP), k ≤ L.length ∧ i = .int .i64 k ∧ out.length ≤ k ∧ out = belowS (L.take k) n ∧ wr.ownsRow wb.heap.size 76 7 v out.length (flatS out) ∧ Below wb.heap.size wb wr) (fun _ i _ => L.length - (intOf i).toNat)
  case atStart => exact ⟨0, [], Nat.zero_le _, rfl, Nat.le_refl _, by simp [belowS], World.ownsRow_nil _ _ _ _, Below.refl _ _⟩
  case round =>
    obtain ⟨k, out, hk, rfl, hok, hout, hown, hb⟩ := hrel
    have z := hb.size
    have KR := Lib.hid (K.out _ hb)
    have HO := Lib.hid hout
    clear hout
    obtain ⟨y0, y1, y2, y3⟩ := hi_cells KR.out.1
    obtain ⟨Av, cv, rfl⟩ := own_form hown
    by_cases hlt : k < L.length
    · obtain ⟨ad, rfl, hbl, d0, d1, d2, d3, d4, d5, d6⟩ := st_at KR.out.2.2 hlt
      have HN : Hid (belowS (L.take (k + 1)) n = belowStep n out L[k]) := by show _ = _; rw [belowS_succ L n k hlt, ← HO.out]
      generalize L[k] = s at *
      obtain ⟨n1, up, ⟨a, S, A1, l, c1, X, B1, m, d⟩⟩ := s
      dsimp only at d0 d1 d2 d3 d4 d5 d6
      have NB := Lib.hid (Blk.new wr 76 #[.int .i64 n1, .int .i64 up, .int .i64 a, .string ⟨S.toArray⟩, .slice A1 l.length c1, .string ⟨X.toArray⟩, .slice B1 m.length d])
      have OB := Lib.hid (hown.alloc (.cells #[.int .i64 n1, .int .i64 up, .int .i64 a, .string ⟨S.toArray⟩, .slice A1 l.length c1, .string ⟨X.toArray⟩, .slice B1 m.length d] 76))
      have BB := Lib.hid (hb.alloc z (.cells #[.int .i64 n1, .int .i64 up, .int .i64 a, .string ⟨S.toArray⟩, .slice A1 l.length c1, .string ⟨X.toArray⟩, .slice B1 m.length d] 76))
      have OL : Hid (∀ g, (Value.slice Av out.length cv).ownBlock = some g → g < wr.heap.size) := fun g hg => (hown.lt g hg).2
      clear hown hb
      obtain ⟨u0, u1, u2, u3, u4, u5, u6⟩ := st_cells NB.out
      obtain ⟨bn, hbn⟩ : ∃ bn : Bool, (n1 == n) = bn := ⟨_, rfl⟩
      have HBN : Hid (bn = (n1 == n)) := hbn.symm
      go_wp2_with fail
      clear y0 y1 y2 y3 d0 d1 d2 d3 d4 d5 d6 u0 u1 u2 u3 u4 u5 u6 hbn
      generalize wr.alloc (.cells #[.int .i64 n1, .int .i64 up, .int .i64 a, .string ⟨S.toArray⟩, .slice A1 l.length c1, .string ⟨X.toArray⟩, .slice B1 m.length d] 76) = wa at *
      generalize hg7 : wr.heap.size = g7 at *
      clear hg7
      go_loopw [8, 9] (fun b j wx => ∃ (q : Nat) (bq : Bool), q ≤ out.length ∧ j = .int .i64 q ∧ b = .bool bq ∧ bq = inS n1 n up (out.take q) ∧ Below wa.heap.size wa wx) (fun _ j _ => out.length - (intOf j).toNat)
      case atStart => exact ⟨0, bn, Nat.zero_le _, rfl, rfl, by rw [HBN.out]; simp [inS], Below.refl _ _⟩
      case round =>
        obtain ⟨q, bq, hq, rfl, rfl, hbd, hbq⟩ := hrel
        have HD := Lib.hid hbd
        have BQ := Lib.hid hbq
        have OQ := Lib.hid (own_keep OB.out hbq (Nat.le_refl _))
        have NQ := Lib.hid (NB.out.below hbq NB.out.lt)
        have zq := BB.out.size
        have zr := hbq.size
        have zg := NB.out.lt
        clear hbd hbq
        by_cases hql : q < out.length
        · obtain ⟨ad2, rfl, _, e0, _⟩ := st_at (Row.of_own OQ.out) hql
          obtain ⟨u0, u1, u2, u3, u4, u5, u6⟩ := st_cells NQ.out
          have HS : Hid (out.take (q + 1) = out.take q ++ [out[q]]) := List.take_succ_eq_append_getElem hql
          generalize out[q] = o at *
          cases bq with
          | true =>
            have HE : Hid (true = inS n1 n up (out.take (q + 1))) := by show _ = _; rw [HS.out, inS_snoc, ← HD.out]; rfl
            go_wp2_with fail
            go_quiet (fail)
            go_wp2
            go_roundw
            case rel => exact ⟨q + 1, true, by omega, by go_num, rfl, HE.out, below_drewN BQ.out _⟩
            case measure => simp [intOf]; omega
          | false =>
            by_cases he : o.n = up
            · have HE : Hid (true = inS n1 n up (out.take (q + 1))) := by show _ = _; rw [HS.out, inS_snoc, ← HD.out, he]; simp
              rw [he] at e0
              clear he
              go_wp2_with fail
              go_quiet (fail)
              go_wp2
              go_roundw
              case rel => exact ⟨q + 1, true, by omega, by go_num, rfl, HE.out, below_drewN BQ.out _⟩
              case measure => simp [intOf]; omega
            · have HE : Hid (false = inS n1 n up (out.take (q + 1))) := by show _ = _; rw [HS.out, inS_snoc, ← HD.out]; simp [he]
              generalize o.n = on at *
              have ht : (on == up) = false := by rw [beq_eq_false_iff_ne]; exact he
              clear he
              go_wp2_with fail
              go_quiet (fail)
              go_wp2
              go_roundw
              case rel => exact ⟨q + 1, false, by omega, by go_num, rfl, HE.out, below_drewN BQ.out _⟩
              case measure => simp [intOf]; omega
        · obtain rfl : q = out.length := by omega
          rw [List.take_length] at HD
          obtain ⟨u0, u1, u2, u3, u4, u5, u6⟩ := st_cells NQ.out
          have t1 := ed_frozen NQ.out
          cases bq with
          | true =>
            have HY := Lib.hid (below_yes (x := ⟨n1, up, ⟨a, S, A1, l, c1, X, B1, m, d⟩⟩) ((inS_iff n1 n up out).1 HD.out.symm))
            by_cases hn : n1 = n
            · subst hn
              rw [if_pos rfl] at HY
              obtain ⟨_, t2, _⟩ := t1
              have N2 : Hid (Blk (wr.setCell ⟨g7, 1, none⟩ (.int .i64 (-1))) g7 76 #[.int .i64 n1, .int .i64 (-1), .int .i64 a, .string ⟨S.toArray⟩, .slice A1 l.length c1, .string ⟨X.toArray⟩, .slice B1 m.length d]) := by
                have := NQ.out.set_ 1 (.int .i64 (-1))
                show Blk _ _ _ _
                simpa using this
              have O2 := Lib.hid (own_far OQ.out (p := ⟨g7, 1, none⟩) (fun e => by have := OL.out _ e; dsimp only at this; omega) (.int .i64 (-1)))
              have B2 := Lib.hid ((BB.out.trans (BQ.out.mono zq)).setCell (p := ⟨g7, 1, none⟩) (by show wb.heap.size ≤ g7; omega) (.int .i64 (-1)))
              go_upto_region 14 with fail
              clear u0 u1 u2 u3 u4 u5 u6 t2
              generalize wr.setCell ⟨g7, 1, none⟩ (.int .i64 (-1)) = wy at *
              have zy := B2.out.size
              obtain ⟨u0, u1, u2, u3, u4, u5, u6⟩ := st_cells N2.out
              go_wp2_with (at_builtin; refine wpList_pushN rfl _ _ _ rfl _ 76 _ 7 104 elt_state 76 _ _ _ rfl O2.out (StP.cells ⟨n1, -1, ⟨a, S, A1, l, c1, X, B1, m, d⟩⟩) _ rfl rfl rfl (stP_cell _) (by unfold maxLen; omega) (by omega) (by omega) ?_; intro v5 w5 hown5 hb5 _)
              go_roundw
              case rel => exact ⟨k + 1, out ++ [⟨n1, -1, ⟨a, S, A1, l, c1, X, B1, m, d⟩⟩], by omega, by go_num, by rw [List.length_append, List.length_singleton]; omega, by rw [HN.out, HY.out], by rw [flatS_snoc, List.length_append]; exact hown5, B2.out.trans hb5⟩
              case measure => simp [intOf]; omega
            · rw [if_neg hn] at HY
              have hn' : (n1 == n) = false := by rw [beq_eq_false_iff_ne]; exact hn
              clear hn
              go_wp2_with (at_builtin; refine wpList_pushN rfl _ _ _ rfl _ 76 _ 7 104 elt_state 76 _ _ _ rfl OQ.out (StP.cells ⟨n1, up, ⟨a, S, A1, l, c1, X, B1, m, d⟩⟩) _ rfl rfl rfl (stP_cell _) (by unfold maxLen; omega) (by omega) (by omega) ?_; intro v5 w5 hown5 hb5 _)
              go_roundw
              case rel => exact ⟨k + 1, out ++ [⟨n1, up, ⟨a, S, A1, l, c1, X, B1, m, d⟩⟩], by omega, by go_num, by rw [List.length_append, List.length_singleton]; omega, by rw [HN.out, HY.out], by rw [flatS_snoc, List.length_append]; exact hown5, (BB.out.trans (BQ.out.mono zq)).trans hb5⟩
              case measure => simp [intOf]; omega
          | false =>
            have hnn : ¬ (n1 = n ∨ ∃ o ∈ out, o.n = up) := fun h => by have := (inS_iff n1 n up out).2 h; rw [← HD.out] at this; cases this
            have HY := Lib.hid (below_no (x := ⟨n1, up, ⟨a, S, A1, l, c1, X, B1, m, d⟩⟩) hnn)
            have hn' : (n1 == n) = false := by rw [beq_eq_false_iff_ne]; exact fun h => hnn (.inl h)
            clear hnn
            go_wp2_with fail
            go_roundw
            case rel => exact ⟨k + 1, out, by omega, by go_num, by omega, by rw [HN.out, HY.out], OQ.out, BB.out.trans (BQ.out.mono zq)⟩
            case measure => simp [intOf]; omega
    · obtain rfl : k = L.length := by omega
      go_wp2_with fail
      go_ret
      have e := HO.out
      rw [List.take_length] at e
      subst e
      exact ⟨Av, cv, rfl, own_base hown (by omega), KR.out.2.1⟩
end Go.Proofs.Ytfeaffabminpfaa

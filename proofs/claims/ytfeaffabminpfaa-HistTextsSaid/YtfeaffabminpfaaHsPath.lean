/-
  Contracts of the document's own answers, layer 8: Path, Ints.
-/
import Derived.Test.YtfeaffabminpfaaHsAsk
namespace Go.Proofs.Ytfeaffabminpfaa
open Go.RowKit

theorem backN_len (L : List StP) : ∀ (k : Nat) (n : Int), (backN L k n).length ≤ k := by
  intro k
  induction k with
  | zero => intro n; simp [backN]
  | succ k ih =>
    intro n
    unfold backN
    split
    · have := ih (findS L n).1.up
      simp; omega
    · simp
theorem int_cell {w : World} {base n c : Nat} {A : Option Addr} {p : List Int} (h : w.ownsRow base 3 1 (.slice A n c) n (p.map intz)) {k : Nat} (hk : k < p.length) : ∃ ad, A = some ad ∧ w.cell? (ad.add k) = some (.int .i64 p[k]) := by
  obtain ⟨ad, e, _, hc⟩ := (Row.of_own h).map_at hk
  exact ⟨ad, e, hc⟩

set_option maxHeartbeats 1000000 in
theorem refHPath_any (A : Option Addr) (c B : Nat) (L : List StP) (now next depth : Int) (hL : L.length ≤ 1000) (w : World) (hB : B ≤ w.heap.size) (h : Row w B A (flatS L)) :
    Calls Try.prog 24 #[.agg #[.slice A L.length c, .int .i64 now, .int .i64 next, .int .i64 depth]] w (GivesI w (pathS L now)) := by
  have K := Lib.hid ((blk_box (T := 28) (cs := #[.slice A L.length c, .int .i64 now, .int .i64 next, .int .i64 depth]) w).and ((bel_box (Below.refl w.heap.size w) (.cells #[.slice A L.length c, .int .i64 now, .int .i64 next, .int .i64 depth] 28)).and ((grow_rowB h hB).alloc (.cells #[.slice A L.length c, .int .i64 now, .int .i64 next, .int .i64 depth] 28))))
  have hz : (w.alloc (.cells #[.slice A L.length c, .int .i64 now, .int .i64 next, .int .i64 depth] 28)).heap.size = w.heap.size + 1 := by simp
  clear h
  obtain ⟨y0, y1, y2, y3⟩ := hi_cells K.out.now.1
  go_enter Try.func24, Try.ntmps24
  go_wp2_with fail
  clear y0 y1 y2 y3
  generalize w.alloc (.cells #[.slice A L.length c, .int .i64 now, .int .i64 next, .int .i64 depth] 28) = wb at *
  go_loopw [3, 4, 5] (fun v x i wr => ∃ (k : Nat) (n : Int) (p : List Int), k ≤ L.length ∧ i = .int .i64 k ∧ x = .int .i64 n ∧ p.length ≤ k ∧ backN L L.length now = p ++ backN L (L.length - k) n ∧ wr.ownsRow wb.heap.size 3 1 v p.length (p.map intz) ∧ Below wb.heap.size wb wr) (fun _ _ i _ => L.length - (intOf i).toNat)
  case atStart => exact ⟨0, now, [], Nat.zero_le _, rfl, rfl, Nat.le_refl _, by simp, World.ownsRow_nil _ _ _ _, Below.refl _ _⟩
  case round =>
    obtain ⟨k, n, p, hk, rfl, rfl, hpk, hp, hown, hb⟩ := hrel
    have z := hb.size
    have KR := Lib.hid (K.out _ hb)
    obtain ⟨Ap, cp, rfl⟩ := own_form hown
    obtain ⟨y0, y1, y2, y3⟩ := hi_cells KR.out.1
    by_cases hlt : k < L.length ∧ 0 ≤ n
    · obtain ⟨hlt, hn⟩ := hlt
      obtain ⟨r, hr⟩ : ∃ r, findS L n = r := ⟨_, rfl⟩
      have HB : Hid (backN L (L.length - k) n = n :: backN L (L.length - (k + 1)) r.1.up) := by
        show _ = _
        rw [show L.length - k = (L.length - (k + 1)) + 1 by omega]
        show (if 0 ≤ n then _ else _) = _
        rw [if_pos hn, hr]
      have HF := Lib.hid hr
      have HP := Lib.hid hp
      clear hr hp
      obtain ⟨⟨n1, up, ⟨a, S, A1, l, c1, X, B1, m, d⟩⟩, is⟩ := r
      dsimp only at HB
      go_wp2_with (first
        | (at_builtin; refine wpList_push rfl _ _ _ rfl wb.heap.size 3 _ 8 elt_int _ _ _ _ rfl hown (.int .i64 n) rfl rfl (by unfold maxLen; omega) (by omega) z ?_; intro v5 w5 hown5 hb5; have K5 := Lib.hid (K.out _ (hb.trans hb5)); have B5 := Lib.hid (hb.trans hb5); clear y0 y1 y2 y3; obtain ⟨y0, y1, y2, y3⟩ := hi_cells K5.out.1)
        | (go_at_call 33; refine (refHFind_any A c B L now next depth n hL _ (by have := B5.out.size; omega) K5.out.2.2).mono ?_; rw [HF.out]; rintro e w6 ⟨rfl, bb⟩; have B6 := Lib.hid ((B5.out.trans (bb.mono B5.out.size)).alloc (by have := B5.out.size; have := bb.size; omega) (.cells #[.int .i64 n1, .int .i64 up, .int .i64 a, .string ⟨S.toArray⟩, .slice A1 l.length c1, .string ⟨X.toArray⟩, .slice B1 m.length d] 76)); have O6 := Lib.hid ((own_keep hown5 bb (Nat.le_refl _)).alloc (.cells #[.int .i64 n1, .int .i64 up, .int .i64 a, .string ⟨S.toArray⟩, .slice A1 l.length c1, .string ⟨X.toArray⟩, .slice B1 m.length d] 76)); clear y0 y1 y2 y3 bb; have N6 := Blk.new w6 76 #[.int .i64 n1, .int .i64 up, .int .i64 a, .string ⟨S.toArray⟩, .slice A1 l.length c1, .string ⟨X.toArray⟩, .slice B1 m.length d]; obtain ⟨u0, u1, u2, u3, u4, u5, u6⟩ := st_cells N6))
      go_roundw
      case rel => exact ⟨k + 1, up, p ++ [n], by omega, by go_num, rfl, by rw [List.length_append, List.length_singleton]; omega, by rw [HP.out, HB.out, List.append_assoc]; rfl, by rw [List.length_append, List.map_append]; exact O6.out, B6.out⟩
      case measure => simp [intOf]; omega
    · go_upto_region 4 with fail
      go_cut [20] (fun s20 wx => s20 = .bool false ∧ wx = wr)
      case first =>
        by_cases h1 : k < L.length
        · have h2 : ¬ 0 ≤ n := fun h => hlt ⟨h1, h⟩
          go_wp2_with fail
          go_meet
          first | exact ⟨rfl, rfl⟩ | exact ⟨by simp; omega, rfl⟩
        · go_wp2_with fail
          go_meet
          first | exact ⟨rfl, rfl⟩ | exact ⟨by simp; omega, rfl⟩
      case rest =>
        obtain ⟨rfl, hwr⟩ := hcut
        replace hwr := hwr.symm
        subst hwr
        have HP : Hid (backN L L.length now = p) := by
          show _ = _
          rw [hp]
          have e : backN L (L.length - k) n = [] := by
            by_cases h1 : k < L.length
            · rw [show L.length - k = (L.length - (k + 1)) + 1 by omega]
              exact if_neg (fun h => hlt ⟨h1, h⟩)
            · rw [show L.length - k = 0 by omega]; rfl
          rw [e, List.append_nil]
        have hpl : p.length ≤ 1000 := by omega
        clear hp hlt y0 y1 y2 y3
        go_wp2_with fail
        go_loopw [8, 9] (fun v i wx => ∃ (x : Int) (j : Nat), i = .int .i64 x ∧ x = (j : Int) - 1 ∧ j ≤ p.length ∧ wx.ownsRow wr.heap.size 3 1 v (p.length - j) ((p.drop j).reverse.map intz) ∧ Below wr.heap.size wr wx) (fun _ i _ => (intOf i + 1).toNat)
        case atStart => exact ⟨_, p.length, rfl, rfl, Nat.le_refl _, by rw [Nat.sub_self, List.drop_length]; exact World.ownsRow_nil _ _ _ _, Below.refl _ _⟩
        case round =>
          obtain ⟨x, j, rfl, hx, hj, ho, hbx⟩ := hrel
          have zx := hbx.size
          rcases j with _ | j
          · have hxn : x < 0 := by omega
            clear hx
            obtain ⟨Ao, co, rfl⟩ := own_form ho
            go_wp2_with fail
            go_ret
            refine ⟨Ao, co, ?_, ?_, KR.out.2.1.trans (hbx.mono (by omega))⟩
            · unfold pathS; rw [HP.out, List.length_reverse]; rfl
            · unfold pathS; rw [HP.out, List.length_reverse]; exact own_base ho (by omega)
          · obtain rfl : x = (j : Int) := by omega
            have hjl : j < p.length := by omega
            clear hx
            obtain ⟨ad, rfl, d0⟩ := int_cell (own_keep hown hbx (Nat.le_refl _)) hjl
            have HS : Hid ((p.drop j).reverse.map intz = (p.drop (j + 1)).reverse.map intz ++ [.int .i64 p[j]]) := by
              show _ = _
              rw [List.drop_eq_getElem_cons hjl, List.reverse_cons, List.map_append]; rfl
            have HL : Hid (p.length - j = p.length - (j + 1) + 1) := by show _ = _; omega
            generalize p[j] = q at *
            go_wp2_with (at_builtin; refine wpList_push rfl _ _ _ rfl _ 3 _ 8 elt_int _ _ _ _ rfl ho (.int .i64 q) rfl rfl (by unfold maxLen; omega) (by omega) zx ?_; intro v5 w5 hown5 hb5)
            go_roundw
            case rel => exact ⟨(j : Int) - 1, j, rfl, rfl, by omega, by rw [HS.out, HL.out]; exact hown5, hbx.trans hb5⟩
            case measure => simp [intOf]

set_option maxHeartbeats 1000000 in
/-- are two lists of numbers the same? -/
theorem refInts_any (A A2 : Option Addr) (c d : Nat) (p q : List Int) (hp : p.length ≤ 1000000) (hq : q.length ≤ 1000000) (w : World) (h : Row w w.heap.size A (p.map intz)) (hh : Row w w.heap.size A2 (q.map intz)) :
    Calls Try.prog 20 #[.slice A p.length c, .slice A2 q.length d] w fun e w' => e = .returned (.bool (decide (p = q))) ∧ Below w.heap.size w w' := by
  have HH := Lib.hid (And.intro h hh)
  clear h hh
  by_cases hl : p.length = q.length
  · have hl' : ((p.length : Int) == (q.length : Int)) = true := by simp [hl]
    have HL := Lib.hid hl
    clear hl
    go_enter Try.func20, Try.ntmps20
    go_wp2_with fail
    go_loopw [5] (fun i wr => ∃ k : Nat, k ≤ p.length ∧ i = .int .i64 k ∧ p.take k = q.take k ∧ Below w.heap.size w wr) (fun i _ => p.length - (intOf i).toNat)
    case atStart => exact ⟨0, Nat.zero_le _, rfl, by simp, Below.refl _ _⟩
    case round =>
      obtain ⟨k, hk, rfl, ht, hb⟩ := hrel
      have HT := Lib.hid ht
      clear ht
      by_cases hlt : k < p.length
      · have hlt2 : k < q.length := by rw [← HL.out]; exact hlt
        obtain ⟨ad, rfl, _, d0⟩ := (HH.out.1.below hb).map_at hlt
        obtain ⟨ad2, rfl, _, e0⟩ := (HH.out.2.below hb).map_at hlt2
        replace d0 : wr.cell? (ad.add k) = some (.int .i64 p[k]) := d0
        replace e0 : wr.cell? (ad2.add k) = some (.int .i64 q[k]) := e0
        by_cases he : p[k] = q[k]
        · have HS : Hid (p.take (k + 1) = q.take (k + 1)) := by
            show _ = _
            rw [List.take_succ_eq_append_getElem hlt, List.take_succ_eq_append_getElem hlt2, HT.out, he]
          rw [← he] at e0
          clear he
          generalize p[k] = x at *
          go_wp2
          go_quiet (fail)
          go_wp2
          go_roundw
          case rel => exact ⟨k + 1, by omega, by go_num, HS.out, below_drewN hb _⟩
          case measure => simp [intOf]; omega
        · have HD : Hid (decide (p = q) = false) := decide_eq_false (fun h => he (by subst h; rfl))
          generalize p[k] = x at *
          generalize q[k] = y at *
          have ht : (x == y) = false := by rw [beq_eq_false_iff_ne]; exact he
          clear he
          go_wp2
          go_quiet (fail)
          go_wp2
          go_ret
          exact ⟨by rw [HD.out]; rfl, below_drewN hb _⟩
      · have HD : Hid (decide (p = q) = true) := by
          refine decide_eq_true ?_
          have := HT.out
          rwa [List.take_of_length_le (by omega), List.take_of_length_le (by rw [← HL.out]; omega)] at this
        go_wp2_with fail
        go_ret
        exact ⟨by rw [HD.out]; rfl, hb⟩
  · have HD : Hid (decide (p = q) = false) := decide_eq_false (fun h => hl (by rw [h]))
    have hl' : ((p.length : Int) == (q.length : Int)) = false := by simp; omega
    clear hl
    go_enter Try.func20, Try.ntmps20
    go_wp2_with fail
    go_ret
    exact ⟨by rw [HD.out]; rfl, Below.refl _ _⟩
end Go.Proofs.Ytfeaffabminpfaa

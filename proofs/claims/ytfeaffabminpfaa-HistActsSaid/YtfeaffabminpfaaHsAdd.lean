/-
  Contracts of the document's own answers, layer 8: Add.
-/
import Derived.Test.YtfeaffabminpfaaHsRedo
import Derived.Test.YtfeaffabminpfaaEdiGood
namespace Go.Proofs.Ytfeaffabminpfaa
open Go.RowKit

/-- a history and two numbers -/
def GivesH (w : World) (L : List StP) (now next depth n err : Int) (e : Ending) (w' : World) : Prop :=
  ∃ A c, e = .returned (.tuple #[.agg #[.slice A L.length c, .int .i64 now, .int .i64 next, .int .i64 depth], .int .i64 n, .int .i64 err]) ∧ w'.ownsRow w.heap.size 76 7 (.slice A L.length c) L.length (flatS L) ∧ Below w.heap.size w w'

set_option maxHeartbeats 2000000 in
theorem refHAdd_bad (A : Option Addr) (c : Nat) (L : List StP) (now next depth : Int) (w : World) (a : Int) (S : List UInt8) (A1 : Option Addr) (l : List RunP) (c1 : Nat) (X : List UInt8) (B1 : Option Addr) (m : List RunP) (d : Nat) (hS : Txu w A1 S l) (hX : Txu w B1 X m) (hg : goodE a S l X m = false) :
    Calls Try.prog 18 #[.agg #[.slice A L.length c, .int .i64 now, .int .i64 next, .int .i64 depth], .agg #[.int .i64 a, .string ⟨S.toArray⟩, .slice A1 l.length c1, .string ⟨X.toArray⟩, .slice B1 m.length d]] w fun e w' => e = .returned (.tuple #[.agg #[.slice A L.length c, .int .i64 now, .int .i64 next, .int .i64 depth], .int .i64 0, .int .i64 2]) ∧ Below w.heap.size w w' := by
  have BX := Lib.hid (boxesE3 w 28 34 28 #[.slice A L.length c, .int .i64 now, .int .i64 next, .int .i64 depth] #[.int .i64 a, .string ⟨S.toArray⟩, .slice A1 l.length c1, .string ⟨X.toArray⟩, .slice B1 m.length d] #[.slice none 0 0, .int .i64 0, .int .i64 0, .int .i64 0])
  have K := Lib.hid (BX.out.and (((grow_txu hS).and (grow_txu hX)).step BX.out.now.2.2.2))
  clear BX hS hX
  obtain ⟨y0, y1, y2, y3⟩ := hi_cells K.out.now.1.1
  obtain ⟨u0, u1, u2, u3, u4⟩ := ed_cells K.out.now.1.2.1
  obtain ⟨⟨v0, v1, v2, v3⟩, v4, v5, v6, v7⟩ := hi_var K.out.now.1.2.2.1
  go_enter Try.func18, Try.ntmps18
  go_wp2_with (go_at_call 39; refine (refEGood_any A1 B1 c1 d a S X l m _ K.out.now.2.1 K.out.now.2.2).mono ?_; rw [hg]; rintro e wb ⟨rfl, bb⟩; replace K := Lib.hid (K.out.step bb); clear bb y0 y1 y2 y3 u0 u1 u2 u3 u4 v0 v1 v2 v3 v4 v5 v6 v7; obtain ⟨y0, y1, y2, y3⟩ := hi_cells K.out.now.1.1; obtain ⟨⟨v0, v1, v2, v3⟩, v4, v5, v6, v7⟩ := hi_var K.out.now.1.2.2.1)
  refine ret_hist rfl _ _ (w.heap.size + 1 + 1) _ _ _ _ rfl (hi_four K.out.now.1.2.2.1 _ _ _ _) rfl ?_
  exact ⟨rfl, below_four K.out.now.1.2.2.2 (by omega) _ _ _ _⟩

set_option maxHeartbeats 4000000 in
theorem refHAdd_fit (A : Option Addr) (c B : Nat) (L : List StP) (now next depth : Int) (hL : L.length ≤ 900) (w : World) (hB : B ≤ w.heap.size) (h : Row w B A (flatS L)) (a : Int) (S : List UInt8) (A1 : Option Addr) (l : List RunP) (c1 : Nat) (X : List UInt8) (B1 : Option Addr) (m : List RunP) (d : Nat) (hS : Txu w A1 S l) (hX : Txu w B1 X m)
    (hg : goodE a S l X m = true) (hn : 0 ≤ next ∧ next ≤ 1000000) (hfit : (L.length : Int) ≤ depth) :
    Calls Try.prog 18 #[.agg #[.slice A L.length c, .int .i64 now, .int .i64 next, .int .i64 depth], .agg #[.int .i64 a, .string ⟨S.toArray⟩, .slice A1 l.length c1, .string ⟨X.toArray⟩, .slice B1 m.length d]] w (GivesH w (L ++ [⟨next, now, ⟨a, S, A1, l, c1, X, B1, m, d⟩⟩]) next (next + 1) depth next 0) := by
  have BX := Lib.hid (boxesE3 w 28 34 28 #[.slice A L.length c, .int .i64 now, .int .i64 next, .int .i64 depth] #[.int .i64 a, .string ⟨S.toArray⟩, .slice A1 l.length c1, .string ⟨X.toArray⟩, .slice B1 m.length d] #[.slice none 0 0, .int .i64 0, .int .i64 0, .int .i64 0])
  have K := Lib.hid (BX.out.and (((grow_rowB h hB).and ((grow_txu hS).and (grow_txu hX))).step BX.out.now.2.2.2))
  clear h BX hS hX
  obtain ⟨y0, y1, y2, y3⟩ := hi_cells K.out.now.1.1
  obtain ⟨u0, u1, u2, u3, u4⟩ := ed_cells K.out.now.1.2.1
  go_enter Try.func18, Try.ntmps18
  go_wp2_with (go_at_call 39; refine (refEGood_any A1 B1 c1 d a S X l m _ K.out.now.2.2.1 K.out.now.2.2.2).mono ?_; rw [hg]; rintro e wb ⟨rfl, bb⟩; replace K := Lib.hid (K.out.step bb); clear bb y0 y1 y2 y3 u0 u1 u2 u3 u4; obtain ⟨y0, y1, y2, y3⟩ := hi_cells K.out.now.1.1; obtain ⟨u0, u1, u2, u3, u4⟩ := ed_cells K.out.now.1.2.1)
  clear y0 y1 y2 y3 u0 u1 u2 u3 u4
  have Z : w.heap.size + 1 + 1 < wb.heap.size := K.out.now.1.2.2.1.lt
  go_loopw [8, 9] (fun v i wr => ∃ k : Nat, k ≤ L.length ∧ i = .int .i64 k ∧ wr.ownsRow wb.heap.size 76 7 v k (flatS (L.take k)) ∧ Below wb.heap.size wb wr) (fun _ i _ => L.length - (intOf i).toNat)
  case atStart => exact ⟨0, Nat.zero_le _, rfl, World.ownsRow_nil _ _ _ _, Below.refl _ _⟩
  case round =>
    obtain ⟨k, hk, rfl, hown, hb⟩ := hrel
    have z := hb.size
    have KR := Lib.hid (K.out _ hb)
    obtain ⟨y0, y1, y2, y3⟩ := hi_cells KR.out.1.1
    obtain ⟨Av, cv, rfl⟩ := own_form hown
    by_cases hlt : k < L.length
    · obtain ⟨ad, rfl, _, d0, d1, d2, d3, d4, d5, d6⟩ := st_at KR.out.2.1 hlt
      have HS : Hid (L.take (k + 1) = L.take k ++ [L[k]]) := List.take_succ_eq_append_getElem hlt
      generalize L[k] = s at *
      obtain ⟨n1, up, ⟨a2, S2, A3, l2, c3, X2, B3, m2, d7⟩⟩ := s
      dsimp only at d0 d1 d2 d3 d4 d5 d6
      go_wp2_with (at_builtin; refine wpList_pushN rfl _ _ _ rfl _ 76 _ 7 104 elt_state 76 _ _ _ rfl hown (StP.cells ⟨n1, up, ⟨a2, S2, A3, l2, c3, X2, B3, m2, d7⟩⟩) _ rfl rfl rfl (stP_cell _) (by unfold maxLen; omega) (by omega) (by omega) ?_; intro v5 w5 hown5 hb5 _)
      go_roundw
      case rel => exact ⟨k + 1, by omega, by go_num, by rw [HS.out, flatS_snoc]; exact hown5, hb.trans hb5⟩
      case measure => simp [intOf]; omega
    · obtain rfl : k = L.length := by omega
      rw [List.take_length] at hown
      obtain ⟨u0, u1, u2, u3, u4⟩ := ed_cells KR.out.1.2.1
      go_upto_region 10 with (at_builtin; refine wpList_pushN rfl _ _ _ rfl _ 76 _ 7 104 elt_state 76 _ _ _ rfl hown (StP.cells ⟨next, now, ⟨a, S, A1, l, c1, X, B1, m, d⟩⟩) _ rfl rfl rfl (stP_cell _) (by unfold maxLen; omega) (by omega) (by omega) ?_; intro v5 w5 hown5 hb5 _)
      obtain ⟨A5, c5, rfl⟩ := own_form hown5
      rw [← flatS_snoc] at hown5
      have B5 := Lib.hid (hb.trans hb5)
      have K5 := Lib.hid (K.out _ B5.out)
      have z5 := B5.out.size
      clear hown hb hb5 KR z u0 u1 u2 u3 u4 y0 y1 y2 y3
      have HB : Hid (Blk (((w5.setCell ⟨w.heap.size, 0, none⟩ (.slice A5 (L.length + 1) c5)).setCell ⟨w.heap.size, 2, none⟩ (.int .i64 (next + 1))).setCell ⟨w.heap.size, 1, none⟩ (.int .i64 next)) w.heap.size 28 #[.slice A5 (L.length + 1) c5, .int .i64 next, .int .i64 (next + 1), .int .i64 depth]) := by
        have := ((K5.out.1.1.set_ 0 (.slice A5 (L.length + 1) c5)).set_ 2 (.int .i64 (next + 1))).set_ 1 (.int .i64 next)
        show Blk _ _ _ _
        simpa using this
      have hne : w.heap.size + 1 + 1 ≠ w.heap.size := by omega
      have HG := Lib.hid (((K5.out.1.2.2.1.far (p := ⟨w.heap.size, 0, none⟩) hne (.slice A5 (L.length + 1) c5)).far (p := ⟨w.heap.size, 2, none⟩) hne (.int .i64 (next + 1))).far (p := ⟨w.heap.size, 1, none⟩) hne (.int .i64 next))
      have hlb : w.heap.size < wb.heap.size := by omega
      have HO := Lib.hid (own_away (own_away (own_away hown5 (p := ⟨w.heap.size, 0, none⟩) hlb (.slice A5 (L.length + 1) c5)) (p := ⟨w.heap.size, 2, none⟩) hlb (.int .i64 (next + 1))) (p := ⟨w.heap.size, 1, none⟩) hlb (.int .i64 next))
      have HW := Lib.hid (((K5.out.1.2.2.2.setCell (p := ⟨w.heap.size, 0, none⟩) (Nat.le_refl _) (.slice A5 (L.length + 1) c5)).setCell (p := ⟨w.heap.size, 2, none⟩) (Nat.le_refl _) (.int .i64 (next + 1))).setCell (p := ⟨w.heap.size, 1, none⟩) (Nat.le_refl _) (.int .i64 next))
      obtain ⟨⟨y0, y1, y2, y3⟩, y4, y5, y6, y7⟩ := hi_var K5.out.1.1
      go_wp2_with fail
      clear y0 y1 y2 y3 y4 y5 y6 y7 hown5 K5 B5
      generalize ((w5.setCell ⟨w.heap.size, 0, none⟩ (.slice A5 (L.length + 1) c5)).setCell ⟨w.heap.size, 2, none⟩ (.int .i64 (next + 1))).setCell ⟨w.heap.size, 1, none⟩ (.int .i64 next) = wy at *
      go_loopw [10] (fun p wx => wx = wy) (fun _ _ => 0)
      case atStart => first | rfl | trivial
      case round =>
        obtain rfl := hrel
        obtain ⟨y0, y1, y2, y3⟩ := hi_cells HB.out
        obtain ⟨⟨v0, v1, v2, v3⟩, v4, v5, v6, v7⟩ := hi_var HG.out
        have hd : ¬ depth < (L.length : Int) := by omega
        go_wp2_with fail
        refine ret_hist rfl _ _ (w.heap.size + 1 + 1) _ _ _ _ rfl (hi_four HG.out _ _ _ _) rfl ?_
        have e : (L ++ [StP.mk next now ⟨a, S, A1, l, c1, X, B1, m, d⟩]).length = L.length + 1 := by simp
        have hlt4 : w.heap.size + 1 + 1 < wb.heap.size := Z
        refine ⟨A5, c5, ?_, ?_, below_four HW.out (by omega) _ _ _ _⟩
        · rw [e]; rfl
        · rw [e]
          exact own_base (own_away (own_away (own_away (own_away HO.out (p := ⟨w.heap.size + 1 + 1, 0, none⟩) hlt4 _) (p := ⟨w.heap.size + 1 + 1, 1, none⟩) hlt4 _) (p := ⟨w.heap.size + 1 + 1, 2, none⟩) hlt4 _) (p := ⟨w.heap.size + 1 + 1, 3, none⟩) hlt4 _) (by omega)
end Go.Proofs.Ytfeaffabminpfaa

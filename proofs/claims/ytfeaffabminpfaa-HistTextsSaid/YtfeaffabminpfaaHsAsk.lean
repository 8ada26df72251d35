/-
  Contracts of the document's own answers, layer 8: States, find.
-/
import Derived.Test.YtfeaffabminpfaaHsMath
namespace Go.Proofs.Ytfeaffabminpfaa
open Go.RowKit

theorem elt_state : Elt Try.prog 26 76 (.agg #[.int .i64 0, .int .i64 0, .int .i64 0, .string ⟨#[]⟩, .slice none 0 0, .string ⟨#[]⟩, .slice none 0 0]) 7 104 := ⟨Try.underlying26, by kernel_rfl, rfl, by decide⟩
theorem hi_cells {w : World} {g T : Nat} {a b c d : Value} (h : Blk w g T #[a, b, c, d]) : w.cell? ⟨g, 0, none⟩ = some a ∧ w.cell? ⟨g, 1, none⟩ = some b ∧ w.cell? ⟨g, 2, none⟩ = some c ∧ w.cell? ⟨g, 3, none⟩ = some d :=
  ⟨by have := h.cell 0; simpa using this, by have := h.cell 1; simpa using this, by have := h.cell 2; simpa using this, by have := h.cell 3; simpa using this⟩
theorem grow_rowB {wx : World} {B : Nat} {A : Option Addr} {xs : List Value} (h : Row wx B A xs) (hB : B ≤ wx.heap.size) : Grow wx (fun w' => Row w' B A xs) := fun _ hb => h.below (hb.mono hB)
/-- a list of numbers, whose row is the call's own -/
def GivesI (w : World) (p : List Int) (e : Ending) (w' : World) : Prop :=
  ∃ A c, e = .returned (.slice A p.length c) ∧ w'.ownsRow w.heap.size 3 1 (.slice A p.length c) p.length (p.map intz) ∧ Below w.heap.size w w'

set_option maxHeartbeats 1000000 in
theorem refHStates_any (A : Option Addr) (c B : Nat) (L : List StP) (now next depth : Int) (hL : L.length ≤ 1000) (w : World) (hB : B ≤ w.heap.size) (h : Row w B A (flatS L)) :
    Calls Try.prog 22 #[.agg #[.slice A L.length c, .int .i64 now, .int .i64 next, .int .i64 depth]] w (GivesI w (L.map StP.n)) := by
  have K := Lib.hid ((blk_box (T := 28) (cs := #[.slice A L.length c, .int .i64 now, .int .i64 next, .int .i64 depth]) w).and ((bel_box (Below.refl w.heap.size w) (.cells #[.slice A L.length c, .int .i64 now, .int .i64 next, .int .i64 depth] 28)).and ((grow_rowB h hB).alloc (.cells #[.slice A L.length c, .int .i64 now, .int .i64 next, .int .i64 depth] 28))))
  have hz : (w.alloc (.cells #[.slice A L.length c, .int .i64 now, .int .i64 next, .int .i64 depth] 28)).heap.size = w.heap.size + 1 := by simp
  clear h
  go_enter Try.func22, Try.ntmps22
  go_wp2_with fail
  generalize w.alloc (.cells #[.slice A L.length c, .int .i64 now, .int .i64 next, .int .i64 depth] 28) = wb at *
  go_loopw [3, 4] (fun v i wr => ∃ k : Nat, k ≤ L.length ∧ i = .int .i64 k ∧ wr.ownsRow wb.heap.size 3 1 v k ((L.take k).map fun s => intz s.n) ∧ Below wb.heap.size wb wr) (fun _ i _ => L.length - (intOf i).toNat)
  case atStart => exact ⟨0, Nat.zero_le _, rfl, World.ownsRow_nil _ _ _ _, Below.refl _ _⟩
  case round =>
    obtain ⟨k, hk, rfl, hown, hb⟩ := hrel
    have z := hb.size
    have KR := Lib.hid (K.out _ hb)
    obtain ⟨y0, y1, y2, y3⟩ := hi_cells KR.out.1
    by_cases hlt : k < L.length
    · obtain ⟨ad, rfl, hbl, d0, _⟩ := st_at KR.out.2.2 hlt
      have HS : Hid (L.take (k + 1) = L.take k ++ [L[k]]) := List.take_succ_eq_append_getElem hlt
      generalize L[k] = s at *
      obtain ⟨n, up, e⟩ := s
      dsimp only at d0
      go_wp2_with (at_builtin; refine wpList_push rfl _ _ _ rfl wb.heap.size 3 _ 8 elt_int _ _ _ _ rfl hown (.int .i64 n) rfl rfl (by unfold maxLen; omega) (by omega) z ?_; intro v5 w5 hown5 hb5)
      go_roundw
      case rel => exact ⟨k + 1, by omega, by go_num, by rw [HS.out, List.map_append]; exact hown5, hb.trans hb5⟩
      case measure => simp [intOf]; omega
    · obtain rfl : k = L.length := by omega
      obtain ⟨A', c', rfl⟩ := own_form hown
      rw [List.take_length] at hown
      go_wp2_with fail
      go_ret
      refine ⟨A', c', by rw [List.length_map]; rfl, ?_, KR.out.2.1⟩
      rw [List.length_map, List.map_map]
      exact own_base hown (by omega)

/-- a state and a truth value are the answer -/
def GivesS (w : World) (r : StP × Bool) (e : Ending) (w' : World) : Prop := e = .returned (.tuple #[.agg #[.int .i64 r.1.n, .int .i64 r.1.up, .int .i64 r.1.e.a, .string ⟨r.1.e.S.toArray⟩, .slice r.1.e.A r.1.e.l.length r.1.e.c, .string ⟨r.1.e.X.toArray⟩, .slice r.1.e.B r.1.e.m.length r.1.e.d], .bool r.2]) ∧ Below w.heap.size w w'
theorem state_facts : (∃ fs, Try.prog.underlying 76 = some (.struct fs)) ∧ (Try.prog.info? 76).map (·.size) = some 7 := ⟨⟨_, Try.underlying76⟩, by kernel_rfl⟩
theorem ret_state {fn : Func} {p u : Tmp} (h : fn.results = #[.cell p 76, .tmp u]) (a : Act) (w : World) (g : Nat) (q r s t v x y : Value) (hp : a.tmps.getD p undef = .pointer (some ⟨g, 0, none⟩)) (hg : Blk w g 76 #[q, r, s, t, v, x, y]) (hd : a.defers = [])
    {Q : Ending → World → Prop} (hQ : Q (.returned (.tuple #[.agg #[q, r, s, t, v, x, y], a.tmps.getD u undef])) w) : bodyPost Try.prog fn Q .ret a w := by
  obtain ⟨⟨fs, hu⟩, hi⟩ := state_facts
  refine bodyPost_ret (v := .tuple #[.agg #[q, r, s, t, v, x, y], a.tmps.getD u undef]) ?_ hd hQ
  have hp' : a.tmps[p]?.getD undef = .pointer (some ⟨g, 0, none⟩) := by simpa using hp
  rw [results_cell_tmp h]
  simp [hp', asAddr, run_loadVar_row w g 76 76 #[q, r, s, t, v, x, y] (0, 0) _ hg hu rfl hi]
theorem st_cells {w : World} {g T : Nat} {a b c d e f h : Value} (q : Blk w g T #[a, b, c, d, e, f, h]) : w.cell? ⟨g, 0, none⟩ = some a ∧ w.cell? ⟨g, 1, none⟩ = some b ∧ w.cell? ⟨g, 2, none⟩ = some c ∧ w.cell? ⟨g, 3, none⟩ = some d ∧ w.cell? ⟨g, 4, none⟩ = some e ∧ w.cell? ⟨g, 5, none⟩ = some f ∧ w.cell? ⟨g, 6, none⟩ = some h :=
  ⟨by have := q.cell 0; simpa using this, by have := q.cell 1; simpa using this, by have := q.cell 2; simpa using this, by have := q.cell 3; simpa using this, by have := q.cell 4; simpa using this, by have := q.cell 5; simpa using this, by have := q.cell 6; simpa using this⟩
theorem st_frozen {w : World} {g T : Nat} {cs : Array Value} (h : Blk w g T cs) : w.frozen? ⟨g, 0, none⟩ = false ∧ w.frozen? ⟨g, 1, none⟩ = false ∧ w.frozen? ⟨g, 2, none⟩ = false ∧ w.frozen? ⟨g, 3, none⟩ = false ∧ w.frozen? ⟨g, 4, none⟩ = false ∧ w.frozen? ⟨g, 5, none⟩ = false ∧ w.frozen? ⟨g, 6, none⟩ = false :=
  ⟨h.frozen 0, h.frozen 1, h.frozen 2, h.frozen 3, h.frozen 4, h.frozen 5, h.frozen 6⟩
theorem blk_seven {w : World} {g T : Nat} {a b c d e f h : Value} (q : Blk w g T #[a, b, c, d, e, f, h]) (v0 v1 v2 v3 v4 v5 v6 : Value) :
    Blk (((((((w.setCell ⟨g, 0, none⟩ v0).setCell ⟨g, 1, none⟩ v1).setCell ⟨g, 2, none⟩ v2).setCell ⟨g, 3, none⟩ v3).setCell ⟨g, 4, none⟩ v4).setCell ⟨g, 5, none⟩ v5).setCell ⟨g, 6, none⟩ v6) g T #[v0, v1, v2, v3, v4, v5, v6] := by
  have := ((((((q.set_ 0 v0).set_ 1 v1).set_ 2 v2).set_ 3 v3).set_ 4 v4).set_ 5 v5).set_ 6 v6
  simpa using this
theorem below_seven {w wb : World} {B g : Nat} (h : Below B w wb) (hg : B ≤ g) (v0 v1 v2 v3 v4 v5 v6 : Value) :
    Below B w (((((((wb.setCell ⟨g, 0, none⟩ v0).setCell ⟨g, 1, none⟩ v1).setCell ⟨g, 2, none⟩ v2).setCell ⟨g, 3, none⟩ v3).setCell ⟨g, 4, none⟩ v4).setCell ⟨g, 5, none⟩ v5).setCell ⟨g, 6, none⟩ v6) := by
  have hk : ∀ i, B ≤ (⟨g, i, none⟩ : Addr).block := fun _ => hg
  exact ((((((h.setCell (hk 0) _).setCell (hk 1) _).setCell (hk 2) _).setCell (hk 3) _).setCell (hk 4) _).setCell (hk 5) _).setCell (hk 6) _

theorem findS_drop {L : List StP} {n : Int} {k : Nat} (hk : k < L.length) : findS (L.drop k) n = if L[k].n = n then (L[k], true) else findS (L.drop (k + 1)) n := by
  rw [List.drop_eq_getElem_cons hk]; rfl

set_option maxHeartbeats 1000000 in
theorem refHFind_any (A : Option Addr) (c B : Nat) (L : List StP) (now next depth n : Int) (hL : L.length ≤ 1000) (w : World) (hB : B ≤ w.heap.size) (h : Row w B A (flatS L)) :
    Calls Try.prog 33 #[.agg #[.slice A L.length c, .int .i64 now, .int .i64 next, .int .i64 depth], .int .i64 n] w (GivesS w (findS L n)) := by
  have BX := Lib.hid (boxesE2 w 28 76 #[.slice A L.length c, .int .i64 now, .int .i64 next, .int .i64 depth] #[.int .i64 0, .int .i64 0, .int .i64 0, .string ⟨#[]⟩, .slice none 0 0, .string ⟨#[]⟩, .slice none 0 0])
  have K := Lib.hid (BX.out.and ((grow_rowB h hB).step BX.out.now.2.2))
  clear h BX
  go_enter Try.func33, Try.ntmps33
  go_wp2_with fail
  generalize (w.alloc (.cells #[.slice A L.length c, .int .i64 now, .int .i64 next, .int .i64 depth] 28)).alloc (.cells #[.int .i64 0, .int .i64 0, .int .i64 0, .string ⟨#[]⟩, .slice none 0 0, .string ⟨#[]⟩, .slice none 0 0] 76) = wb at *
  obtain ⟨y0, y1, y2, y3⟩ := hi_cells K.out.now.1.1
  obtain ⟨u0, u1, u2, u3, u4, u5, u6⟩ := st_cells K.out.now.1.2.1
  obtain ⟨f0, f1, f2, f3, f4, f5, f6⟩ := st_frozen K.out.now.1.2.1
  go_loopw [6] (fun i wr => ∃ k : Nat, k ≤ L.length ∧ i = .int .i64 k ∧ findS L n = findS (L.drop k) n ∧ wr = wb) (fun i _ => L.length - (intOf i).toNat)
  case atStart => exact ⟨0, Nat.zero_le _, rfl, rfl, rfl⟩
  case round =>
    obtain ⟨k, hk, rfl, hf, rfl⟩ := hrel
    by_cases hlt : k < L.length
    · obtain ⟨ad, rfl, hbl, d0, d1, d2, d3, d4, d5, d6⟩ := st_at K.out.now.2 hlt
      rw [findS_drop hlt] at hf
      generalize L[k] = s at *
      obtain ⟨n1, up, ⟨a, S, A1, l, c1, X, B1, m, d⟩⟩ := s
      dsimp only at d0 d1 d2 d3 d4 d5 d6 hf
      by_cases hn : n1 = n
      · subst hn
        rw [if_pos rfl] at hf
        have HF := Lib.hid hf
        clear hf
        go_wp2_with fail
        have E := blk_seven K.out.now.1.2.1 (.int .i64 n1) (.int .i64 up) (.int .i64 a) (.string ⟨S.toArray⟩) (.slice A1 l.length c1) (.string ⟨X.toArray⟩) (.slice B1 m.length d)
        refine ret_state rfl _ _ (w.heap.size + 1) _ _ _ _ _ _ _ rfl E rfl ?_
        refine ⟨by rw [HF.out]; rfl, below_seven K.out.now.1.2.2 (by omega) _ _ _ _ _ _ _⟩
      · rw [if_neg hn] at hf
        have HF := Lib.hid hf
        have hn' : (n1 == n) = false := by rw [beq_eq_false_iff_ne]; exact hn
        clear hf
        go_wp2_with fail
        go_roundw
        case rel => exact ⟨k + 1, by omega, by go_num, HF.out, by first | rfl | trivial⟩
        case measure => simp [intOf]; omega
    · have e : L.drop k = [] := List.drop_of_length_le (by omega)
      rw [e] at hf
      have HF := Lib.hid hf
      clear hf
      go_wp2_with fail
      have E := blk_seven K.out.now.1.2.1 (.int .i64 0) (.int .i64 0) (.int .i64 0) (.string ⟨#[]⟩) (.slice none 0 0) (.string ⟨#[]⟩) (.slice none 0 0)
      refine ret_state rfl _ _ (w.heap.size + 1) _ _ _ _ _ _ _ rfl E rfl ?_
      refine ⟨by rw [HF.out]; rfl, below_seven K.out.now.1.2.2 (by omega) _ _ _ _ _ _ _⟩
end Go.Proofs.Ytfeaffabminpfaa

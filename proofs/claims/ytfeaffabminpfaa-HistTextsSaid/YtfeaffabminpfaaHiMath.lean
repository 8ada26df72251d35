/-
  The landed history's map as a plain list of states: layer 8.
-/
import Derived.Test.YtfeaffabminpfaaHsInv
import Derived.Maps.OwnSet
import Derived.Lib.SlKeysI
namespace Go.Proofs.Ytfeaffabminpfaa
open Go.RowKit Go.Maps

/-- a state as the map holds it -/
def StP.val (s : StP) : Value := .agg #[.int .i64 s.up, .int .i64 s.e.a, .string ⟨s.e.S.toArray⟩, .slice s.e.A s.e.l.length s.e.c, .string ⟨s.e.X.toArray⟩, .slice s.e.B s.e.m.length s.e.d]
def rawV (v : Value) : Option (DataW Value × List MemPlace) := some (.held v, [])
def entS (s : StP) : Lit × DataW Value := (.int .i64 s.n, .held s.val)
def dataS (L : List StP) : DataW Value := .map (L.map entS)
def UpS (L : List StP) : Prop := L.Pairwise fun a b => a.n < b.n

theorem same_int (a b : Int) : (Lit.int .i64 a).sameKey (.int .i64 b) = decide (a = b) := by
  simp [Lit.sameKey]
theorem before_int (a b : Int) : (Lit.int .i64 a).before (.int .i64 b) = decide (a < b) := rfl
theorem dataS_size (L : List StP) : Maps.size (dataS L) = L.length := by simp [dataS, Maps.size]
theorem dataS_keys (L : List StP) : intKeys (dataS L) = L.map StP.n := by
  show (L.map entS).map (fun p => Go.intOf p.1) = L.map StP.n
  rw [List.map_map]; rfl
theorem dataS_has (L : List StP) (n : Int) : Maps.has (dataS L) (.int .i64 n) = (findS L n).2 := by
  unfold dataS
  rw [Maps.has_eq]
  induction L with
  | nil => rfl
  | cons x L ih =>
    rw [List.map_cons, List.any_cons, findS_cons, ih]
    unfold entS
    rw [same_int]
    by_cases e : x.n = n <;> simp [e]
theorem findS_not {L : List StP} {n : Int} (hf : (findS L n).2 = false) : (findS L n).1 = zeroS := by
  induction L with
  | nil => rfl
  | cons x L ih =>
    rw [findS_cons] at hf ⊢
    by_cases e : x.n = n
    · rw [if_pos e] at hf; cases hf
    · rw [if_neg e] at hf ⊢; exact ih hf
theorem dataS_at (L : List StP) (n : Int) (z : DataW Value) : (dataS L).atKey (.int .i64 n) z = if (findS L n).2 then .held (findS L n).1.val else z := by
  unfold dataS DataW.atKey
  dsimp only
  induction L with
  | nil => rfl
  | cons x L ih =>
    rw [List.map_cons, List.find?_cons, findS_cons]
    have e : (entS x).1.sameKey (.int .i64 n) = decide (x.n = n) := same_int _ _
    by_cases h : x.n = n
    · rw [e, decide_eq_true h, if_pos h]; rfl
    · rw [e, decide_eq_false h, if_neg h]; exact ih
theorem dataS_del (L : List StP) (n : Int) : (dataS L).del (.int .i64 n) = dataS (L.filter fun x => decide (x.n ≠ n)) := by
  unfold dataS DataW.del
  dsimp only
  congr 1
  induction L with
  | nil => rfl
  | cons x L ih =>
    rw [List.map_cons, List.filter_cons, List.filter_cons, ih]
    have e : (entS x).1.sameKey (.int .i64 n) = decide (x.n = n) := same_int _ _
    rw [e]
    by_cases h : x.n = n <;> simp [h]
theorem ins_last (s : StP) : ∀ L : List StP, (∀ x ∈ L, x.n < s.n) → DataW.insert (entS s) (L.map entS) = (L ++ [s]).map entS
  | [], _ => rfl
  | x :: L, h => by
    have hx := h x (List.mem_cons_self ..)
    have e : (entS s).1.before (entS x).1 = false := by
      show (Lit.int .i64 s.n).before (.int .i64 x.n) = false
      rw [before_int]; simp; omega
    rw [List.map_cons, List.cons_append, List.map_cons]
    unfold DataW.insert
    rw [e, if_neg (by decide), ins_last s L fun y hy => h y (List.mem_cons_of_mem _ hy)]
theorem filter_others {L : List StP} {n : Int} (h : ∀ x ∈ L, x.n ≠ n) : (L.map entS).filter (fun p => !p.1.sameKey (.int .i64 n)) = L.map entS := by
  refine List.filter_eq_self.2 fun p hp => ?_
  obtain ⟨x, hx, rfl⟩ := List.mem_map.1 hp
  show (!(Lit.int .i64 x.n).sameKey (.int .i64 n)) = true
  rw [same_int]; simp [h x hx]
theorem dataS_put_new {L : List StP} {s : StP} (h : ∀ x ∈ L, x.n < s.n) : (dataS L).put (.int .i64 s.n) (.held s.val) = dataS (L ++ [s]) := by
  unfold dataS DataW.put
  dsimp only
  rw [filter_others fun x hx => by have := h x hx; omega]
  exact congrArg _ (ins_last s L h)
theorem dataS_put_old {L : List StP} (hu : UpS L) {s : StP} (h : ∃ x ∈ L, x.n = s.n) : (dataS L).put (.int .i64 s.n) (.held s.val) = dataS (L.map fun x => if x.n = s.n then s else x) := by
  unfold dataS DataW.put
  dsimp only
  congr 1
  show DataW.insert (entS s) _ = _
  induction L with
  | nil => obtain ⟨x, hx, _⟩ := h; simp at hx
  | cons x L ih =>
    obtain ⟨h1, h2⟩ := List.pairwise_cons.1 hu
    rw [List.map_cons, List.filter_cons]
    have e : (entS x).1.sameKey (.int .i64 s.n) = decide (x.n = s.n) := same_int _ _
    rw [e]
    by_cases hx : x.n = s.n
    · have ho : ∀ y ∈ L, y.n ≠ s.n := fun y hy => by have := h1 y hy; omega
      rw [decide_eq_true hx, if_neg (by decide), filter_others ho, List.map_cons, if_pos hx]
      have er : L.map (fun y => if y.n = s.n then s else y) = L := by
        conv => rhs; rw [← List.map_id L]
        exact List.map_congr_left fun y hy => by rw [if_neg (ho y hy)]; rfl
      rw [er]
      rcases L with _ | ⟨y, L⟩
      · rfl
      · have hy := h1 y (List.mem_cons_self ..)
        have e2 : (entS s).1.before (entS y).1 = true := by
          show (Lit.int .i64 s.n).before (.int .i64 y.n) = true
          rw [before_int]; simp; omega
        rw [List.map_cons]
        unfold DataW.insert
        rw [e2, if_pos rfl]; rfl
    · have hin : ∃ y ∈ L, y.n = s.n := by
        obtain ⟨y, hy, hn⟩ := h
        rcases List.mem_cons.1 hy with rfl | hy
        · exact absurd hn hx
        · exact ⟨y, hy, hn⟩
      obtain ⟨y, hy, hn⟩ := hin
      have hxs : x.n < s.n := by have := h1 y hy; omega
      have e2 : (entS s).1.before (entS x).1 = false := by
        show (Lit.int .i64 s.n).before (.int .i64 x.n) = false
        rw [before_int]; simp; omega
      rw [decide_eq_false hx, if_pos (by decide), List.map_cons, if_neg hx, List.map_cons]
      unfold DataW.insert
      rw [e2, if_neg (by decide), ih h2 ⟨y, hy, hn⟩]
theorem upS_nums {L : List StP} (h : UpS L) : (L.map StP.n).Pairwise (· < ·) := List.pairwise_map.2 h
theorem sorted_nums {L : List StP} (hu : UpS L) {ss : List Int} (hp : ss.Perm (L.map StP.n)) : ss.mergeSort leI = L.map StP.n := by
  rw [mergeSort_of_perm_i hp]
  refine List.mergeSort_of_pairwise ?_
  exact (upS_nums hu).imp fun h => by simp only [leI, decide_eq_true_eq]; omega

/-- block b of w is a map that holds these states -/
def MapS (w : World) (b : Nat) (L : List StP) : Prop := w.ownsMap Try.prog 3 rawV b L.length (dataS L)
theorem owns_tight {P : Program} {k : TypeId} {b n : Nat} {D : DataW Value} {R : Value → Option (DataW Value × List MemPlace)} {w : World} (h : w.ownsMap P k R b n D) : w.ownsMap P k R b (Maps.size D) D := by
  obtain ⟨es, clock, hb, F, hs, rfl⟩ := h
  exact ⟨es, clock, hb, F, by simp [Maps.size, length_sorted], rfl⟩
theorem mapS_of {w : World} {b n : Nat} {L : List StP} (h : w.ownsMap Try.prog 3 rawV b n (dataS L)) : MapS w b L := by
  have := owns_tight h
  rw [dataS_size] at this
  exact this
theorem key_law : Keyed Try.prog 3 := int_keyed Try.underlying3
theorem key_wf {n : Int} (h : -1 ≤ n ∧ n ≤ 1000000) : (Lit.int .i64 n).wf = true := WalkArith.wf_i64 (by omega)
theorem key_of {n : Int} (h : -1 ≤ n ∧ n ≤ 1000000) : keyOf Try.prog 3 (.int .i64 n) = some (.int .i64 n) := keyOf_int_mk Try.underlying3 (key_wf h)
theorem zero_state (w : World) : (zeroValue 74).run Try.prog w = .ok zeroS.val w := by kernel_rfl
theorem MapS.look {w : World} {b : Nat} {L : List StP} (h : MapS w b L) {n : Int} (hn : -1 ≤ n ∧ n ≤ 1000000) : (Instr.lookup 65 (.map (some b)) (.int .i64 n) false).run Try.prog w = .ok (findS L n).1.val w := by
  obtain ⟨v, ps, hr, hv⟩ := World.ownsMap.lookup h key_law Try.underlying65 (zero_state w) (zd := .held zeroS.val) (zp := []) rfl (key_of hn)
  rw [hr]
  rw [dataS_at] at hv
  unfold rawV at hv
  have hv := Option.some.inj hv
  have hv1 : DataW.held v = _ := congrArg Prod.fst hv
  cases hf : (findS L n).2
  · rw [hf, if_neg (by decide)] at hv1
    have hv1 := DataW.held.inj hv1
    rw [hv1, findS_not hf]
  · rw [hf, if_pos rfl] at hv1
    have hv1 := DataW.held.inj hv1
    rw [hv1]
theorem MapS.look_ok {w : World} {b : Nat} {L : List StP} (h : MapS w b L) {n : Int} (hn : -1 ≤ n ∧ n ≤ 1000000) : (Instr.lookup 65 (.map (some b)) (.int .i64 n) true).run Try.prog w = .ok (.tuple #[(findS L n).1.val, .bool (findS L n).2]) w := by
  obtain ⟨v, ps, hr, hv⟩ := World.ownsMap.look_ok h key_law Try.underlying65 (zero_state w) (zd := .held zeroS.val) (zp := []) rfl (key_of hn)
  rw [hr, dataS_has]
  obtain ⟨v2, ps2, hr2, hv2⟩ := World.ownsMap.lookup h key_law Try.underlying65 (zero_state w) (zd := .held zeroS.val) (zp := []) rfl (key_of hn)
  have e : v = v2 := by
    unfold rawV at hv hv2
    have hv := Option.some.inj hv
    have hv2 := Option.some.inj hv2
    have h1 : DataW.held v = _ := congrArg Prod.fst hv
    have h2 : DataW.held v2 = _ := congrArg Prod.fst hv2
    have h3 := h1.trans h2.symm
    exact DataW.held.inj h3
  rw [MapS.look h hn] at hr2
  have hr2 := (Result.ok.inj hr2).1
  rw [e, ← hr2]
theorem MapS.len {w : World} {b : Nat} {L : List StP} (h : MapS w b L) (ty : TypeId) : (Builtin.len_ #[65] ty #[.map (some b)]).run Try.prog w = .ok (.int .i64 L.length) w := by
  rw [World.ownsMap.len h Try.underlying65 ty, dataS_size]
end Go.Proofs.Ytfeaffabminpfaa

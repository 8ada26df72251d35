/-
  A command's words; the same command for the document: layer 11.
-/
import Derived.Test.YtbfedakncdodcaaGrSays
namespace Go.Proofs.Ytbfedakncdodcaa
open Go.RowKit

def I32 (z : Int) : Prop := -2147483648 ≤ z ∧ z ≤ 2147483647
/-- the words of a command are keys, or 0 -/
structure OkW (c : CmdG) : Prop where
  reg : I32 c.reg
  verb : I32 c.verb
  move : I32 c.move
  arg : I32 c.arg
def okS : StG → Prop
  | .start | .name => True
  | .verb c | .digits c | .second _ c | .oper c | .more c _ => OkW c
theorem i32_0 : I32 0 := by unfold I32; omega
theorem okW_0 : OkW cmd0 := ⟨i32_0, i32_0, i32_0, i32_0⟩
theorem argG_i32 {q : KindG} {k : Int} (h : I32 k) : I32 (argG q k) := by cases q <;> first | exact i32_0 | exact h
def okO : OutG → Prop | .go s => okS s | .done c => OkW c | .bad => True
theorem outG_ok {q : VK} {c : CmdG} (h : OkW c) : okO (outG q c) := by cases q <;> first | exact h | trivial
theorem step_okW {v : Bool} {s : StG} {k : Int} (hs : okS s) (hk : I32 k) : okO (stepG v s k) := by
  have verb : ∀ c, OkW c → okO (verbG v c k) := fun c h => outG_ok ⟨h.reg, hk, h.move, h.arg⟩
  have move : ∀ c, OkW c → okO (moveG c k) := fun c h => outG_ok ⟨h.reg, h.verb, hk, h.arg⟩
  cases s with
  | start =>
    show okO (if k = 34 then _ else if digit1 k then _ else _)
    split
    · trivial
    · split
      · exact ⟨i32_0, i32_0, i32_0, i32_0⟩
      · exact verb _ okW_0
  | name =>
    show okO (if nameG k = true then _ else _)
    split
    · exact ⟨hk, i32_0, i32_0, i32_0⟩
    · trivial
  | verb c =>
    show okO (if digit1 k then _ else _)
    split
    · exact ⟨(show OkW c from hs).reg, (show OkW c from hs).verb, (show OkW c from hs).move, (show OkW c from hs).arg⟩
    · exact verb _ hs
  | digits c =>
    show okO (if digit0 k then _ else _)
    split
    · exact ⟨(show OkW c from hs).reg, (show OkW c from hs).verb, (show OkW c from hs).move, (show OkW c from hs).arg⟩
    · exact verb _ hs
  | second q c =>
    show okO (if fitsG q k = true then _ else _)
    split
    · exact ⟨(show OkW c from hs).reg, (show OkW c from hs).verb, (show OkW c from hs).move, argG_i32 hk⟩
    · trivial
  | oper c =>
    show okO (if digit1 k then _ else _)
    split
    · exact hs
    · exact move _ hs
  | more c n =>
    show okO (if digit0 k then _ else _)
    split
    · exact hs
    · exact move _ ⟨(show OkW c from hs).reg, (show OkW c from hs).verb, (show OkW c from hs).move, (show OkW c from hs).arg⟩
theorem run_okW {v : Bool} : ∀ (l : List Int) (s : StG) (n : Nat), okS s → (∀ z ∈ l, I32 z) → OkW (runG v s l n).1
  | [], _, _, _, _ => okW_0
  | k :: l, s, n, hs, hl => by
    have h := step_okW (v := v) hs (hl k (List.mem_cons_self ..))
    cases hq : stepG v s k with
    | go t => rw [runG_go hq]; rw [hq] at h; exact run_okW l t (n + 1) h (fun z hz => hl z (List.mem_cons_of_mem _ hz))
    | done c => rw [runG_done hq]; rw [hq] at h; exact h
    | bad => rw [runG_bad hq]; exact okW_0
theorem parse_okW {v : Bool} {l : List Int} (hl : ∀ z ∈ l, -2147483648 ≤ z ∧ z ≤ 2147483647) : OkW (parseG l v).1 := run_okW l .start 0 trivial hl
theorem tell_ok {c : CmdG} (h : OkW c) (_hn : 0 ≤ c.count ∧ c.count ≤ 999) : (tellG c).length ≤ 10 ∧ ∀ z ∈ tellG c, -2147483648 ≤ z ∧ z ≤ 2147483647 := by
  have hd : (digitsG c.count).length ≤ 3 := by rw [← digD_all]; exact digD_len _ _
  have key : ∀ (p : Prop) [Decidable p] (e z : Int), I32 e → z ∈ (if p then [e] else []) → I32 z := fun p _ e z he h => by
    split at h
    · rw [List.mem_singleton.1 h]; exact he
    · simp at h
  have h34 : I32 34 := by unfold I32; omega
  have h103 : I32 103 := by unfold I32; omega
  constructor
  · unfold tellG preG
    simp only [List.length_append]
    have f : ∀ (p : Prop) [Decidable p] (e : Int), (if p then [e] else []).length ≤ 1 := fun p _ e => by split <;> simp
    have f1 := f (c.verb = 103) 103
    have f2 := f (c.move ≠ 0) c.move
    have f3 := f (c.move = 103) 103
    have f4 := f (c.arg ≠ 0) c.arg
    have f0 : (if c.reg ≠ 0 then [34, c.reg] else []).length ≤ 2 := by split <;> simp
    have f5 : ([c.verb] : List Int).length = 1 := rfl
    omega
  · intro z hz
    unfold tellG preG at hz
    rw [List.mem_append, List.mem_append, List.mem_append, List.mem_append, List.mem_append, List.mem_append] at hz
    rcases hz with (((((hz | hz) | hz) | hz) | hz) | hz) | hz
    · split at hz
      · rcases List.mem_cons.1 hz with rfl | hz
        · exact h34
        · rw [List.mem_singleton.1 hz]; exact h.reg
      · simp at hz
    · unfold digitsG at hz
      rw [List.mem_append, List.mem_append] at hz
      rcases hz with (hz | hz) | hz
      all_goals exact key _ _ _ (by unfold I32; omega) hz
    · rw [List.mem_singleton.1 hz]; exact h.verb
    · exact key _ _ _ h103 hz
    · exact key _ _ _ h.move hz
    · exact key _ _ _ h103 hz
    · exact key _ _ _ h.arg hz

theorem cmd_facts : (∃ fs, Try.prog.underlying 33 = some (.struct fs)) ∧ (Try.prog.info? 33).map (·.size) = some 5 := ⟨⟨_, Try.underlying33⟩, by kernel_rfl⟩
theorem ret_cmd1 {fn : Func} {p : Tmp} (h : fn.results = #[.cell p 33]) (a : Act) (w : World) (g : Nat) (q r s t v : Value) (hp : a.tmps.getD p undef = .pointer (some ⟨g, 0, none⟩)) (hg : Blk w g 33 #[q, r, s, t, v]) (hd : a.defers = [])
    {Q : Ending → World → Prop} (hQ : Q (.returned (.agg #[q, r, s, t, v])) w) : bodyPost Try.prog fn Q .ret a w := by
  obtain ⟨⟨fs, hu⟩, hi⟩ := cmd_facts
  exact bodyPost_ret (results_cell_row h a.tmps w g 33 #[q, r, s, t, v] (0, 0) _ hp hg hu rfl hi) hd hQ
set_option maxHeartbeats 1000000 in
theorem ours_any (r n v m a : Int) (hr : I32 r) (hv : I32 v) (hm : I32 m) (ha : I32 a) (w : World) :
    Calls Try.prog 14 #[.agg #[.int .i32 r, .int .i64 n, .int .i32 v, .int .i32 m, .int .i32 a]] w fun e w' => e = .returned (.agg #[.int .i64 r, .int .i64 n, .int .i64 v, .int .i64 m, .int .i64 a]) ∧ Below w.heap.size w w' := by
  unfold I32 at hr hv hm ha
  have HB := Lib.hid (Blk.new (w.alloc (.cells #[.int .i32 r, .int .i64 n, .int .i32 v, .int .i32 m, .int .i32 a] 27)) 33 #[.int .i64 r, .int .i64 n, .int .i64 v, .int .i64 m, .int .i64 a])
  go_enter Try.func14, Try.ntmps14
  go_wp2_with fail
  refine ret_cmd1 rfl _ _ (w.heap.size + 1) _ _ _ _ _ rfl (by have := HB.out; simpa using this) rfl ?_
  exact ⟨rfl, ((Below.refl _ w).alloc (Nat.le_refl _) _).alloc (by simp) _⟩
/-- a command that lies in a variable stays there -/
theorem cmd_stays (w : World) (T : TypeId) (q r s t v : Value) : ∀ w', Below (w.alloc (.cells #[q, r, s, t, v] T)).heap.size (w.alloc (.cells #[q, r, s, t, v] T)) w' → (w'.cell? ⟨w.heap.size, 0, none⟩ = some q ∧ w'.cell? ⟨w.heap.size, 1, none⟩ = some r ∧ w'.cell? ⟨w.heap.size, 2, none⟩ = some s ∧ w'.cell? ⟨w.heap.size, 3, none⟩ = some t ∧ w'.cell? ⟨w.heap.size, 4, none⟩ = some v) := fun w' hb => by
  have hB := (Blk.new w T #[q, r, s, t, v]).below hb (by simp)
  exact ⟨hB.cell 0, hB.cell 1, hB.cell 2, hB.cell 3, hB.cell 4⟩
end Go.Proofs.Ytbfedakncdodcaa

/-
  What the list of a history keeps: layer 8.
-/
import Derived.Test.YtfeaffabminpfaaHsMath
namespace Go.Proofs.Ytfeaffabminpfaa

theorem findS_cons (x : StP) (L : List StP) (n : Int) : findS (x :: L) n = if x.n = n then (x, true) else findS L n := rfl
theorem backN_succ (L : List StP) (k : Nat) (n : Int) : backN L (k + 1) n = if 0 ≤ n then n :: backN L k (findS L n).1.up else [] := rfl
theorem findS_app {L : List StP} {n : Int} (h : ∀ x ∈ L, x.n ≠ n) (M : List StP) : findS (L ++ M) n = findS M n := by
  induction L with
  | nil => rfl
  | cons x L ih =>
    rw [List.cons_append, findS_cons, if_neg (h x (List.mem_cons_self ..))]
    exact ih fun y hy => h y (List.mem_cons_of_mem _ hy)
theorem findS_mem {L : List StP} {n : Int} (h : ∃ x ∈ L, x.n = n) : (findS L n).2 = true ∧ (findS L n).1 ∈ L ∧ (findS L n).1.n = n := by
  induction L with
  | nil => obtain ⟨x, hx, _⟩ := h; simp at hx
  | cons x L ih =>
    unfold findS
    by_cases e : x.n = n
    · rw [if_pos e]; exact ⟨rfl, List.mem_cons_self .., e⟩
    · rw [if_neg e]
      obtain ⟨y, hy, hn⟩ := h
      rcases List.mem_cons.1 hy with rfl | hy
      · exact absurd hn e
      · obtain ⟨a, b, c⟩ := ih ⟨y, hy, hn⟩
        exact ⟨a, List.mem_cons_of_mem _ b, c⟩
/-- where a state is added behind another one, the way up has two states at least -/
theorem path_two {L : List StP} {s : StP} (hL : 0 < L.length) (hn : ∀ x ∈ L, x.n ≠ s.n) (h0 : 0 ≤ s.n) (hu : 0 ≤ s.up) : ∃ r0 p1 rest, pathS (L ++ [s]) s.n = r0 :: p1 :: rest := by
  have f : findS (L ++ [s]) s.n = (s, true) := by rw [findS_app hn]; unfold findS; rw [if_pos rfl]
  obtain ⟨k, hk⟩ : ∃ k, (L ++ [s]).length = k + 2 := ⟨L.length - 1, by simp; omega⟩
  have b : backN (L ++ [s]) (k + 2) s.n = s.n :: s.up :: backN (L ++ [s]) k (findS (L ++ [s]) s.up).1.up := by
    rw [backN_succ, if_pos h0, f]
    dsimp only
    rw [backN_succ, if_pos hu]
  have e : 2 ≤ (pathS (L ++ [s]) s.n).length := by unfold pathS; rw [hk, b]; simp
  generalize pathS (L ++ [s]) s.n = p at e ⊢
  match p, e with
  | r0 :: p1 :: rest, _ => exact ⟨r0, p1, rest, rfl⟩
/-- the first state is not behind another one: one at least is forgotten -/
theorem below_less {L : List StP} {x : StP} {n : Int} (hx : x.n ≠ n) : (belowS (x :: L) n).length ≤ L.length := by
  have e : belowS (x :: L) n = belowS L n := by
    unfold belowS
    rw [List.foldl_cons]
    have : belowStep n [] x = [] := by unfold belowStep; rw [if_neg (by simp [hx])]
    rw [this]
  rw [e]; exact belowS_len L n
theorem backN_next (L : List StP) : ∀ (k : Nat) (n : Int) (pre post : List Int) (a b : Int), backN L k n = pre ++ a :: b :: post → (findS L a).1.up = b ∧ 0 ≤ b := by
  have head : ∀ (k : Nat) (n b : Int) (post : List Int), backN L k n = b :: post → n = b ∧ 0 ≤ b := by
    intro k n b post h
    cases k with
    | zero => cases h
    | succ k =>
      rw [backN_succ] at h
      by_cases h0 : 0 ≤ n
      · rw [if_pos h0] at h; injection h with h1 _; exact ⟨h1, h1 ▸ h0⟩
      · rw [if_neg h0] at h; cases h
  intro k
  induction k with
  | zero => intro n pre post a b h; cases pre <;> cases h
  | succ k ih =>
    intro n pre post a b h
    rw [backN_succ] at h
    by_cases h0 : 0 ≤ n
    · rw [if_pos h0] at h
      cases pre with
      | nil =>
        rw [List.nil_append] at h
        injection h with h1 h2
        subst h1
        exact head _ _ _ _ h2
      | cons z pre =>
        rw [List.cons_append] at h
        injection h with _ h2
        exact ih _ _ _ _ _ h2
    · rw [if_neg h0] at h; cases pre <;> cases h
/-- the second state of a way is not the list's first one -/
theorem path_second {x : StP} {M : List StP} {now r0 p1 : Int} {rest : List Int} (hx : x.up < 0) (h : pathS (x :: M) now = r0 :: p1 :: rest) : x.n ≠ p1 := by
  have hb : backN (x :: M) (x :: M).length now = rest.reverse ++ p1 :: r0 :: [] := by
    have := congrArg List.reverse h
    unfold pathS at this
    simpa using this
  obtain ⟨h1, h2⟩ := backN_next _ _ _ _ _ _ _ hb
  intro e
  rw [findS_cons, if_pos e] at h1
  dsimp only at h1
  omega
/-- a list one state too long: what lies at and behind the second state of its way is no longer than is kept -/
theorem full_less {x : StP} {M : List StP} {now r0 p1 : Int} {rest : List Int} (hx : x.up < 0) (h : pathS (x :: M) now = r0 :: p1 :: rest) : (belowS (x :: M) p1).length ≤ M.length :=
  below_less (path_second hx h)
theorem fold_pre (n : Int) (L : List StP) : ∀ out, ∃ M, L.foldl (belowStep n) out = out ++ M := by
  induction L with
  | nil => intro out; exact ⟨[], by simp⟩
  | cons x L ih =>
    intro out
    rw [List.foldl_cons]
    obtain ⟨M, hM⟩ := ih (belowStep n out x)
    rw [hM]
    unfold belowStep
    split
    · exact ⟨_, List.append_assoc ..⟩
    · exact ⟨M, rfl⟩
/-- the state asked for comes first, and nothing is ahead of it -/
theorem below_head {L : List StP} {n : Int} (h : ∃ x ∈ L, x.n = n) : ∃ e M, belowS L n = ⟨n, -1, e⟩ :: M := by
  unfold belowS
  induction L with
  | nil => obtain ⟨x, hx, _⟩ := h; simp at hx
  | cons x L ih =>
    rw [List.foldl_cons]
    by_cases e : x.n = n
    · have : belowStep n [] x = [⟨n, -1, x.e⟩] := by unfold belowStep; rw [if_pos (Or.inl e), if_pos e, e]; rfl
      rw [this]
      obtain ⟨M, hM⟩ := fold_pre n L [⟨n, -1, x.e⟩]
      rw [hM]
      exact ⟨x.e, M, rfl⟩
    · have : belowStep n [] x = [] := by unfold belowStep; rw [if_neg (by simp [e])]
      rw [this]
      obtain ⟨y, hy, hn⟩ := h
      rcases List.mem_cons.1 hy with rfl | hy
      · exact absurd hn e
      · exact ih ⟨y, hy, hn⟩
/-- the numbers stay in their order -/
theorem below_nums (L : List StP) (n : Int) : ((belowS L n).map StP.n).Sublist (L.map StP.n) := by
  have key : ∀ (L out : List StP), ((L.foldl (belowStep n) out).map StP.n).Sublist (out.map StP.n ++ L.map StP.n) := by
    intro L
    induction L with
    | nil => intro out; simp
    | cons x L ih =>
      intro out
      rw [List.foldl_cons, List.map_cons]
      refine (ih (belowStep n out x)).trans ?_
      unfold belowStep
      split
      · have : (if x.n = n then ⟨x.n, -1, x.e⟩ else x : StP).n = x.n := by split <;> rfl
        rw [List.map_append, List.map_cons, List.map_nil, this, List.append_assoc]
        exact List.Sublist.refl _
      · exact List.Sublist.append (List.Sublist.refl _) (List.sublist_cons_self _ _)
  exact key L []
/-- each state's parent lies earlier in the list, or the state is the one that nothing is ahead of -/
def KidsIn (n : Int) (out : List StP) : Prop := ∀ a x b, out = a ++ x :: b → (x.n = n ∧ x.up = -1) ∨ ∃ o ∈ a, o.n = x.up
theorem kids_snoc {n : Int} {out : List StP} {y : StP} (h : KidsIn n out) (hy : (y.n = n ∧ y.up = -1) ∨ ∃ o ∈ out, o.n = y.up) : KidsIn n (out ++ [y]) := by
  intro a x b e
  rcases List.eq_nil_or_concat b with rfl | ⟨c, z, rfl⟩
  · obtain ⟨e1, e2⟩ := List.append_inj' e rfl
    injection e2 with e3 _
    subst e1 e3
    exact hy
  · have e' : out ++ [y] = (a ++ x :: c) ++ [z] := by rw [e]; simp
    obtain ⟨e1, _⟩ := List.append_inj' e' rfl
    exact h a x c e1
theorem kids_below (L : List StP) (n : Int) : KidsIn n (belowS L n) := by
  have key : ∀ (L out : List StP), KidsIn n out → KidsIn n (L.foldl (belowStep n) out) := by
    intro L
    induction L with
    | nil => intro out h; exact h
    | cons x L ih =>
      intro out h
      rw [List.foldl_cons]
      refine ih _ ?_
      unfold belowStep
      split
      · next hc =>
        refine kids_snoc h ?_
        by_cases e : x.n = n
        · rw [if_pos e]; exact Or.inl ⟨e, rfl⟩
        · rw [if_neg e]; exact Or.inr (hc.resolve_left e)
      · exact h
  exact key L [] fun a x b e => by cases a <;> cases e
end Go.Proofs.Ytfeaffabminpfaa

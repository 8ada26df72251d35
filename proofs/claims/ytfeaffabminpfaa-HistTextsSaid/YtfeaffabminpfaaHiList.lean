/-
  A history's list of states: what New, Add, Undo, Redo keep; two lists that are alike: layer 8.
-/
import Derived.Test.YtfeaffabminpfaaHiMath
import Derived.Test.YtfeaffabminpfaaHsUndo
namespace Go.Proofs.Ytfeaffabminpfaa

/-- what a history's list keeps -/
structure InvS (G : List StP) (now last dep : Int) : Prop where
  hdep : 1 ≤ dep ∧ dep ≤ 65
  hlen : (G.length : Int) ≤ dep + 1
  hup : UpS G
  hlow : ∀ s ∈ G, 0 ≤ s.n ∧ s.n ≤ last
  hkids : ∃ n, KidsIn n G
  hnow : ∃ s ∈ G, s.n = now

theorem inv_new {dep : Int} (h : 1 ≤ dep ∧ dep ≤ 64) : InvS [firstS] 0 0 dep where
  hdep := ⟨h.1, by omega⟩
  hlen := by simp; omega
  hup := List.pairwise_singleton _ _
  hlow := fun s hs => by rw [List.mem_singleton.1 hs]; exact ⟨Int.le_refl _, Int.le_refl _⟩
  hkids := ⟨0, fun a x b e => by
    rcases a with _ | ⟨y, a⟩
    · rw [List.nil_append] at e; injection e with e _; subst e; exact Or.inl ⟨rfl, rfl⟩
    · rw [List.cons_append] at e; injection e with _ e; cases a <;> cases e⟩
  hnow := ⟨firstS, List.mem_singleton.2 rfl, rfl⟩

section
variable {G L : List StP} {now last dep : Int}
/-- a state's parent is in the list, ahead of it, or it has none -/
theorem InvS.kid (h : InvS G now last dep) {s : StP} (hs : s ∈ G) : s.up = -1 ∨ (0 ≤ s.up ∧ s.up < s.n ∧ ∃ o ∈ G, o.n = s.up) := by
  obtain ⟨n, hk⟩ := h.hkids
  obtain ⟨a, b, e⟩ := List.append_of_mem hs
  rcases hk a s b e with ⟨_, h1⟩ | ⟨o, ho, h1⟩
  · exact Or.inl h1
  · have hu := h.hup
    unfold UpS at hu
    rw [e, List.pairwise_append] at hu
    have hlt := hu.2.2 o ho s (List.mem_cons_self ..)
    have hoG : o ∈ G := by rw [e]; exact List.mem_append_left _ ho
    have := h.hlow o hoG
    exact Or.inr ⟨by omega, by omega, o, hoG, h1⟩
theorem InvS.pos (h : InvS G now last dep) : 0 < G.length := by obtain ⟨s, hs, _⟩ := h.hnow; exact List.length_pos_of_mem hs
theorem InvS.nowLow (h : InvS G now last dep) : 0 ≤ now ∧ now ≤ last := by obtain ⟨s, hs, rfl⟩ := h.hnow; exact h.hlow s hs
theorem InvS.small (h : InvS G now last dep) : G.length ≤ 66 := by have := h.hlen; have := h.hdep; omega
theorem inj_num (hu : UpS G) {s t : StP} (hs : s ∈ G) (ht : t ∈ G) (e : s.n = t.n) : s = t := by
  induction G with
  | nil => simp at hs
  | cons x G ih =>
    obtain ⟨h1, h2⟩ := List.pairwise_cons.1 hu
    rcases List.mem_cons.1 hs with hs | hs <;> rcases List.mem_cons.1 ht with ht | ht
    · rw [hs, ht]
    · have := h1 t ht; rw [hs] at e; omega
    · have := h1 s hs; rw [ht] at e; omega
    · exact ih h2 hs ht
theorem find_self (hu : UpS G) {s : StP} (hs : s ∈ G) : findS G s.n = (s, true) := by
  obtain ⟨h1, h2, h3⟩ := findS_mem ⟨s, hs, rfl⟩
  exact Prod.ext (inj_num hu h2 hs h3) h1
theorem find_in {n : Int} : (findS G n).2 = true ↔ ∃ s ∈ G, s.n = n := by
  constructor
  · intro h
    induction G with
    | nil => cases h
    | cons x G ih =>
      rw [findS_cons] at h
      by_cases e : x.n = n
      · exact ⟨x, List.mem_cons_self .., e⟩
      · rw [if_neg e] at h
        obtain ⟨s, hs, hn⟩ := ih h
        exact ⟨s, List.mem_cons_of_mem _ hs, hn⟩
  · exact fun h => (findS_mem h).1
/-- the first state: it alone has no parent -/
theorem InvS.head (h : InvS G now last dep) : ∃ f M, G = f :: M ∧ f.up = -1 ∧ ∀ s ∈ G, s.up = -1 → s = f := by
  obtain ⟨n, hk⟩ := h.hkids
  rcases hG : G with _ | ⟨f, M⟩
  · have := h.pos; rw [hG] at this; simp at this
  · have hf : f.n = n ∧ f.up = -1 := by
      rcases hk [] f M (by rw [hG]; rfl) with h1 | ⟨o, ho, _⟩
      · exact h1
      · simp at ho
    refine ⟨f, M, rfl, hf.2, fun s hs hu => ?_⟩
    rw [← hG] at hs
    obtain ⟨a, b, e⟩ := List.append_of_mem hs
    have hfG : f ∈ G := by rw [hG]; exact List.mem_cons_self ..
    rcases hk a s b e with ⟨h1, _⟩ | ⟨o, ho, h1⟩
    · exact inj_num h.hup hs hfG (by rw [h1, hf.1])
    · have := h.hlow o (by rw [e]; exact List.mem_append_left _ ho)
      omega
theorem cnt_le {G : List StP} {m n : Int} (h : m ≤ n) : G.countP (fun x => decide (x.n ≤ m)) ≤ G.countP (fun x => decide (x.n ≤ n)) :=
  List.countP_mono_left fun x _ hx => by simp at hx ⊢; omega
theorem cnt_lt {G : List StP} {s : StP} (hs : s ∈ G) {m : Int} (h : m < s.n) : G.countP (fun x => decide (x.n ≤ m)) < G.countP (fun x => decide (x.n ≤ s.n)) := by
  induction G with
  | nil => simp at hs
  | cons x G ih =>
    rw [List.countP_cons, List.countP_cons]
    rcases List.mem_cons.1 hs with rfl | hs
    · have := cnt_le (G := G) (show m ≤ s.n by omega)
      rw [if_neg (by simp; omega), if_pos (by simp)]
      omega
    · have := ih hs
      by_cases hm : x.n ≤ m
      · rw [if_pos (by simp; omega), if_pos (by simp; omega)]; omega
      · rw [if_neg (by simp; omega)]
        split <;> omega
/-- enough steps: all the way up -/
theorem InvS.enough (h : InvS G now last dep) : ∀ (j k : Nat) (n : Int), (n = -1 ∨ ∃ s ∈ G, s.n = n) → G.countP (fun x => decide (x.n ≤ n)) ≤ j → G.countP (fun x => decide (x.n ≤ n)) ≤ k → backN G j n = backN G k n := by
  have neg : ∀ k, backN G k (-1) = [] := fun k => by cases k with | zero => rfl | succ k => rw [backN_succ, if_neg (by decide)]
  intro j
  induction j with
  | zero =>
    intro k n hn hj hk
    rcases hn with rfl | ⟨s, hs, rfl⟩
    · rw [neg, neg]
    · have := cnt_lt hs (show s.n - 1 < s.n by omega); omega
  | succ j ih =>
    intro k n hn hj hk
    rcases hn with rfl | ⟨s, hs, rfl⟩
    · rw [neg, neg]
    · have hp := cnt_lt hs (show s.n - 1 < s.n by omega)
      obtain ⟨k', rfl⟩ : ∃ k', k = k' + 1 := ⟨k - 1, by omega⟩
      rw [backN_succ, backN_succ, find_self h.hup hs]
      dsimp only
      rcases h.kid hs with hu | ⟨_, hu, o, ho, e⟩
      · rw [hu, neg, neg]
      · have hc := cnt_lt hs hu
        rw [ih k' s.up (Or.inr ⟨o, ho, e⟩) (by omega) (by omega)]
theorem InvS.full (h : InvS G now last dep) {s : StP} (hs : s ∈ G) : backN G G.length s.n = s.n :: backN G G.length s.up := by
  have hl : ∀ n : Int, G.countP (fun x => decide (x.n ≤ n)) ≤ G.length := fun n => List.countP_le_length
  obtain ⟨k, hk⟩ : ∃ k, G.length = k + 1 := ⟨G.length - 1, by have := List.length_pos_of_mem hs; omega⟩
  have h0 := (h.hlow s hs).1
  have e : backN G (k + 1) s.n = s.n :: backN G k s.up := by rw [backN_succ, if_pos h0, find_self h.hup hs]
  rw [hk, e]
  rcases h.kid hs with hu | ⟨_, hu, o, ho, e⟩
  · rw [hu]; cases k <;> rw [backN_succ, if_neg (by decide)]
    · rfl
    · rw [backN_succ, if_neg (by decide)]
  · have hc := cnt_lt hs hu
    have := hl s.n
    rw [h.enough k (k + 1) s.up (Or.inr ⟨o, ho, e⟩) (by omega) (by omega)]
theorem backN_mem (h : InvS G now last dep) : ∀ (k : Nat) (n : Int), (n = -1 ∨ ∃ s ∈ G, s.n = n) → ∀ q ∈ backN G k n, ∃ s ∈ G, s.n = q := by
  intro k
  induction k with
  | zero => intro n _ q hq; simp [backN] at hq
  | succ k ih =>
    intro n hn q hq
    rw [backN_succ] at hq
    rcases hn with rfl | ⟨s, hs, rfl⟩
    · rw [if_neg (by decide)] at hq; simp at hq
    · rw [if_pos (h.hlow s hs).1, find_self h.hup hs] at hq
      rcases List.mem_cons.1 hq with rfl | hq
      · exact ⟨s, hs, rfl⟩
      · refine ih s.up ?_ q hq
        rcases h.kid hs with hu | ⟨_, _, o, ho, e⟩
        · exact Or.inl hu
        · exact Or.inr ⟨o, ho, e⟩
theorem InvS.path_mem (h : InvS G now last dep) : ∀ q ∈ pathS G now, ∃ s ∈ G, s.n = q := fun q hq =>
  backN_mem h _ _ (Or.inr h.hnow) q (by unfold pathS at hq; simpa using hq)
/-- neighbours on the way -/
theorem InvS.path_next (h : InvS G now last dep) {pre post : List Int} {a b : Int} (e : pathS G now = pre ++ a :: b :: post) : a < b ∧ ∃ s ∈ G, s.n = b ∧ s.up = a := by
  have hb : backN G G.length now = post.reverse ++ b :: a :: pre.reverse := by
    have := congrArg List.reverse e
    unfold pathS at this
    simpa using this
  obtain ⟨h1, h2⟩ := backN_next _ _ _ _ _ _ _ hb
  obtain ⟨s, hs, hn⟩ := h.path_mem b (by rw [e]; simp)
  subst hn
  rw [find_self h.hup hs] at h1
  dsimp only at h1
  rcases h.kid hs with hu | ⟨_, hu, _⟩
  · omega
  · exact ⟨by omega, s, hs, rfl, h1⟩
theorem InvS.path_last (h : InvS G now last dep) : ∃ pre, pathS G now = pre ++ [now] := by
  obtain ⟨s, hs, rfl⟩ := h.hnow
  unfold pathS
  rw [h.full hs, List.reverse_cons]
  exact ⟨_, rfl⟩
theorem InvS.path_first (h : InvS G now last dep) : ∃ f M rest, G = f :: M ∧ pathS G now = f.n :: rest := by
  obtain ⟨f, M, hG, hf, huniq⟩ := h.head
  refine ⟨f, M, ?_⟩
  have key : ∀ (k : Nat) (n : Int), (∃ s ∈ G, s.n = n) → G.countP (fun x => decide (x.n ≤ n)) ≤ k → ∃ pre, backN G G.length n = pre ++ [f.n] := by
    intro k
    induction k with
    | zero =>
      rintro n ⟨s, hs, rfl⟩ hk
      have := cnt_lt hs (show s.n - 1 < s.n by omega); omega
    | succ k ih =>
      rintro n ⟨s, hs, rfl⟩ hk
      rw [h.full hs]
      rcases h.kid hs with hu | ⟨_, hu, o, ho, e⟩
      · rw [huniq s hs hu, hf]
        refine ⟨[], ?_⟩
        cases G.length with
        | zero => rfl
        | succ k => rw [backN_succ, if_neg (by decide)]; rfl
      · have hc := cnt_lt hs hu
        obtain ⟨pre, hp⟩ := ih s.up ⟨o, ho, e⟩ (by omega)
        exact ⟨s.n :: pre, by rw [hp]; rfl⟩
  obtain ⟨pre, hp⟩ := key _ now h.hnow (Nat.le_refl _)
  exact ⟨pre.reverse, hG, by unfold pathS; rw [hp, List.reverse_append]; rfl⟩
theorem InvS.path_len (_h : InvS G now last dep) : (pathS G now).length ≤ G.length := by
  have : ∀ (k : Nat) (n : Int), (backN G k n).length ≤ k := by
    intro k
    induction k with
    | zero => intro n; simp [backN]
    | succ k ih => intro n; rw [backN_succ]; split; rw [List.length_cons]; have := ih (findS G n).1.up; omega; simp
  unfold pathS
  rw [List.length_reverse]
  exact this _ _

/-! Add -/
theorem InvS.add (h : InvS G now last dep) {s : StP} (hn : s.n = last + 1) (hu : s.up = now) (hl : (G.length : Int) ≤ dep) : InvS (G ++ [s]) s.n s.n dep where
  hdep := h.hdep
  hlen := by simp; omega
  hup := List.pairwise_append.2 ⟨h.hup, List.pairwise_singleton _ _, fun a ha b hb => by rw [List.mem_singleton.1 hb]; have := (h.hlow a ha).2; omega⟩
  hlow := fun x hx => by
    rcases List.mem_append.1 hx with hx | hx
    · have := h.hlow x hx; omega
    · rw [List.mem_singleton.1 hx]; have := h.nowLow; omega
  hkids := by
    obtain ⟨n, hk⟩ := h.hkids
    obtain ⟨o, ho, e⟩ := h.hnow
    exact ⟨n, kids_snoc hk (Or.inr ⟨o, ho, by rw [e, hu]⟩)⟩
  hnow := ⟨s, by simp, rfl⟩
/-- the list with a state more, before anything is forgotten -/
theorem InvS.more (h : InvS G now last dep) {s : StP} (hn : s.n = last + 1) (hu : s.up = now) (hd : dep ≤ 64) : InvS (G ++ [s]) s.n s.n (dep + 1) := by
  have h' : InvS G now last (dep + 1) := { h with hdep := ⟨by have := h.hdep; omega, by omega⟩, hlen := by have := h.hlen; omega }
  exact h'.add hn hu (by have := h.hlen; omega)

theorem fold_new (n : Int) (L : List StP) : ∀ (out : List StP), ∀ o ∈ L.foldl (belowStep n) out, o ∈ out ∨ ∃ y ∈ L, y.n = o.n := by
  induction L with
  | nil => intro out o ho; exact Or.inl ho
  | cons x L ih =>
    intro out o ho
    rw [List.foldl_cons] at ho
    rcases ih _ o ho with h1 | ⟨y, hy, e⟩
    · unfold belowStep at h1
      split at h1
      · rcases List.mem_append.1 h1 with h1 | h1
        · exact Or.inl h1
        · right
          refine ⟨x, List.mem_cons_self .., ?_⟩
          rw [List.mem_singleton.1 h1]
          split <;> rfl
      · exact Or.inl h1
    · exact Or.inr ⟨y, List.mem_cons_of_mem _ hy, e⟩
theorem below_closed {n : Int} (hu : UpS L) {x : StP} (hx : x ∈ L) (hlt : x.up < x.n) (hin : ∃ o ∈ belowS L n, o.n = x.up) : ∃ o ∈ belowS L n, o.n = x.n := by
  obtain ⟨a, b, rfl⟩ := List.append_of_mem hx
  have e : belowS (a ++ x :: b) n = b.foldl (belowStep n) (belowStep n (belowS a n) x) := by unfold belowS; rw [List.foldl_append, List.foldl_cons]
  rw [e] at hin ⊢
  obtain ⟨o, ho, hn⟩ := hin
  have ho2 : o ∈ belowStep n (belowS a n) x := by
    rcases fold_new n b _ o ho with h1 | ⟨y, hy, e2⟩
    · exact h1
    · unfold UpS at hu
      rw [List.pairwise_append] at hu
      have := (List.pairwise_cons.1 hu.2.1).1 y hy
      omega
  have hc : x.n = n ∨ (∃ o ∈ belowS a n, o.n = x.up) := by
    unfold belowStep at ho2
    split at ho2
    · next hc => exact hc
    · exact Or.inr ⟨o, ho2, hn⟩
  obtain ⟨M, hM⟩ := fold_pre n b (belowStep n (belowS a n) x)
  rw [hM]
  refine ⟨if x.n = n then ⟨x.n, -1, x.e⟩ else x, List.mem_append_left _ ?_, by split <;> rfl⟩
  unfold belowStep
  rw [if_pos hc]
  simp
theorem below_has {n : Int} (h : ∃ x ∈ L, x.n = n) : ∃ o ∈ belowS L n, o.n = n := by
  obtain ⟨e, M, hM⟩ := below_head h
  exact ⟨_, by rw [hM]; exact List.mem_cons_self .., rfl⟩
/-- what lies on the way from the second state on is left -/
theorem InvS.path_below (h : InvS G now last dep) {r0 p1 : Int} {rest : List Int} (e : pathS G now = r0 :: p1 :: rest) : ∃ o ∈ belowS G p1, o.n = now := by
  have key : ∀ (rest pre : List Int) (prev : Int), pathS G now = pre ++ prev :: rest → (∃ o ∈ belowS G p1, o.n = prev) → ∀ q ∈ prev :: rest, ∃ o ∈ belowS G p1, o.n = q := by
    intro rest
    induction rest with
    | nil => intro pre prev _ hp q hq; rw [List.mem_singleton.1 hq]; exact hp
    | cons q0 rest ih =>
      intro pre prev hp hin q hq
      rcases List.mem_cons.1 hq with rfl | hq
      · exact hin
      · obtain ⟨hlt, s, hs, rfl, hu⟩ := h.path_next hp
        exact ih (pre ++ [prev]) s.n (by rw [hp]; simp) (below_closed h.hup hs (by omega) (by rw [hu]; exact hin)) q hq
  refine key rest [r0] p1 e (below_has (h.path_mem p1 (by rw [e]; simp))) now ?_
  obtain ⟨pre, hp⟩ := h.path_last
  rw [hp] at e
  rcases pre with _ | ⟨x, pre⟩
  · simp at e
  · rw [List.cons_append] at e
    injection e with _ e
    rw [← e]
    simp
theorem below_up {n : Int} : ∀ x ∈ belowS L n, x.n = n → x.up = -1 := by
  have key : ∀ (L out : List StP), (∀ x ∈ out, x.n = n → x.up = -1) → ∀ x ∈ L.foldl (belowStep n) out, x.n = n → x.up = -1 := by
    intro L
    induction L with
    | nil => intro out h; exact h
    | cons y L ih =>
      intro out h
      rw [List.foldl_cons]
      refine ih _ fun x hx e => ?_
      unfold belowStep at hx
      split at hx
      · rcases List.mem_append.1 hx with hx | hx
        · exact h x hx e
        · rw [List.mem_singleton.1 hx] at e ⊢
          by_cases hy : y.n = n
          · rw [if_pos hy]
          · rw [if_neg hy] at e; exact absurd e hy
      · exact h x hx e
  exact key L [] (by simp)
/-- what is left where the child towards the present state becomes the first one -/
def zfix (n : Int) (x : StP) : StP := if x.n = n then ⟨n, -1, zeroE⟩ else x
def forgS (G : List StP) (n : Int) : List StP := (belowS G n).map (zfix n)
theorem zfix_n (n : Int) (x : StP) : (zfix n x).n = x.n := by
  unfold zfix
  split
  · next h => exact h.symm
  · rfl
theorem forg_nums (G : List StP) (n : Int) : (forgS G n).map StP.n = (belowS G n).map StP.n := by
  unfold forgS
  rw [List.map_map]
  exact List.map_congr_left fun x _ => zfix_n n x
theorem upS_of {L : List StP} (h : (L.map StP.n).Pairwise (· < ·)) : UpS L := List.pairwise_map.1 h
theorem InvS.forget (h : InvS G now last (dep + 1)) (hd : 1 ≤ dep) (hl : (G.length : Int) = dep + 2) {r0 p1 : Int} {rest : List Int} (e : pathS G now = r0 :: p1 :: rest) : InvS (forgS G p1) now last dep where
  hdep := ⟨hd, by have := h.hdep; omega⟩
  hlen := by
    obtain ⟨f, M, hG, hf, _⟩ := h.head
    have : (belowS G p1).length ≤ M.length := by
      subst hG
      exact full_less (by rw [hf]; decide) e
    unfold forgS
    rw [List.length_map]
    have : G.length = M.length + 1 := by rw [hG]; rfl
    omega
  hup := upS_of (by rw [forg_nums]; exact (upS_nums h.hup).sublist (below_nums G p1))
  hlow := fun s hs => by
    have : s.n ∈ (forgS G p1).map StP.n := List.mem_map.2 ⟨s, hs, rfl⟩
    rw [forg_nums] at this
    obtain ⟨x, hx, ex⟩ := List.mem_map.1 ((below_nums G p1).subset this)
    rw [← ex]
    exact h.hlow x hx
  hkids := by
    refine ⟨p1, fun a x b e2 => ?_⟩
    unfold forgS at e2
    obtain ⟨a', b', hs, ha, hb⟩ := List.map_eq_append_iff.1 e2
    obtain ⟨x', b2, rfl, rfl, rfl⟩ := List.map_eq_cons_iff.1 hb
    subst ha
    rcases kids_below G p1 a' x' b2 hs with ⟨h1, h2⟩ | ⟨o, ho, h1⟩
    · left
      unfold zfix
      rw [if_pos h1]
      exact ⟨rfl, rfl⟩
    · by_cases hx : x'.n = p1
      · left
        unfold zfix
        rw [if_pos hx]
        exact ⟨rfl, rfl⟩
      · right
        refine ⟨zfix p1 o, List.mem_map.2 ⟨o, ho, rfl⟩, ?_⟩
        rw [zfix_n, h1]
        unfold zfix
        rw [if_neg hx]
  hnow := by
    obtain ⟨o, ho, e2⟩ := h.path_below e
    exact ⟨zfix p1 o, List.mem_map.2 ⟨o, ho, rfl⟩, by rw [zfix_n, e2]⟩
end
end Go.Proofs.Ytfeaffabminpfaa

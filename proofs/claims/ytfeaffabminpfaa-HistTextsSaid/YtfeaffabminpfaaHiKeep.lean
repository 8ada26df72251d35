/-
  What forgetting leaves, state by state: layer 8.
-/
import Derived.Test.YtfeaffabminpfaaHiList
namespace Go.Proofs.Ytfeaffabminpfaa

def keepStep (n : Int) (out : List StP) (x : StP) : List StP := if x.n = n ∨ (∃ o ∈ out, o.n = x.up) then out ++ [x] else out
def keepS (L : List StP) (n : Int) : List StP := L.foldl (keepStep n) []
def keepR (G : List StP) (n : Int) (k : Nat) : List StP := keepS (G.take k) n ++ G.drop k
theorem keepS_succ (L : List StP) (n : Int) (k : Nat) (hk : k < L.length) : keepS (L.take (k + 1)) n = keepStep n (keepS (L.take k) n) L[k] := by
  rw [List.take_succ_eq_append_getElem hk]; unfold keepS; rw [List.foldl_append]; rfl
theorem keep_sub (L : List StP) (n : Int) : (keepS L n).Sublist L := by
  have key : ∀ (L out : List StP), (L.foldl (keepStep n) out).Sublist (out ++ L) := by
    intro L
    induction L with
    | nil => intro out; simp
    | cons x L ih =>
      intro out
      rw [List.foldl_cons]
      refine (ih (keepStep n out x)).trans ?_
      unfold keepStep
      split
      · rw [List.append_assoc]; exact List.Sublist.refl _
      · exact List.Sublist.append (List.Sublist.refl _) (List.sublist_cons_self _ _)
  exact key L []
theorem keepR_zero (G : List StP) (n : Int) : keepR G n 0 = G := rfl
theorem keepR_len (G : List StP) (n : Int) : keepR G n G.length = keepS G n := by unfold keepR; rw [List.take_length, List.drop_length, List.append_nil]
theorem keepR_sub (G : List StP) (n : Int) (k : Nat) : (keepR G n k).Sublist G := by
  have := List.Sublist.append (keep_sub (G.take k) n) (List.Sublist.refl (G.drop k))
  rwa [List.take_append_drop] at this
theorem keepR_up {G : List StP} (hu : UpS G) (n : Int) (k : Nat) : UpS (keepR G n k) := List.Pairwise.sublist (keepR_sub G n k) hu
theorem keepR_at {G : List StP} {n : Int} {k : Nat} (hk : k < G.length) : keepR G n k = keepS (G.take k) n ++ G[k] :: G.drop (k + 1) := by
  unfold keepR; rw [List.drop_eq_getElem_cons hk]
theorem keepR_find {G : List StP} (hu : UpS G) {n : Int} {k : Nat} (hk : k < G.length) : findS (keepR G n k) G[k].n = (G[k], true) :=
  find_self (keepR_up hu n k) (by rw [keepR_at hk]; exact List.mem_append_right _ (List.mem_cons_self ..))
theorem keepR_par {G : List StP} (hu : UpS G) {n : Int} {k : Nat} (hk : k < G.length) (hlt : G[k].up < G[k].n) : (findS (keepR G n k) G[k].up).2 = true ↔ ∃ o ∈ keepS (G.take k) n, o.n = G[k].up := by
  rw [find_in, keepR_at hk]
  constructor
  · rintro ⟨o, ho, e⟩
    rcases List.mem_append.1 ho with ho | ho
    · exact ⟨o, ho, e⟩
    · have hp : UpS (G.drop k) := List.Pairwise.sublist (List.drop_sublist k G) hu
      rw [List.drop_eq_getElem_cons hk] at hp
      rcases List.mem_cons.1 ho with rfl | ho
      · omega
      · have := (List.pairwise_cons.1 hp).1 o ho
        omega
  · rintro ⟨o, ho, e⟩
    exact ⟨o, List.mem_append_left _ ho, e⟩
theorem keepR_stay {G : List StP} {n : Int} {k : Nat} (hk : k < G.length) (h : G[k].n = n ∨ ∃ o ∈ keepS (G.take k) n, o.n = G[k].up) : keepR G n (k + 1) = keepR G n k := by
  rw [keepR_at hk]
  unfold keepR
  rw [keepS_succ G n k hk]
  unfold keepStep
  rw [if_pos h, List.append_assoc]
  rfl
theorem keepR_go {G : List StP} (hu : UpS G) {n : Int} {k : Nat} (hk : k < G.length) (h : ¬ (G[k].n = n ∨ ∃ o ∈ keepS (G.take k) n, o.n = G[k].up)) : (keepR G n k).filter (fun x => decide (x.n ≠ G[k].n)) = keepR G n (k + 1) := by
  have hp := keepR_up hu n k
  rw [keepR_at hk] at hp ⊢
  unfold UpS at hp
  rw [List.pairwise_append] at hp
  have e1 : (keepS (G.take k) n).filter (fun x => decide (x.n ≠ G[k].n)) = keepS (G.take k) n := List.filter_eq_self.2 fun x hx => by
    have := hp.2.2 x hx G[k] (List.mem_cons_self ..); simp; omega
  have e2 : (G.drop (k + 1)).filter (fun x => decide (x.n ≠ G[k].n)) = G.drop (k + 1) := List.filter_eq_self.2 fun x hx => by
    have := (List.pairwise_cons.1 hp.2.1).1 x hx; simp; omega
  rw [List.filter_append, List.filter_cons, e1, e2, if_neg (by simp)]
  unfold keepR
  rw [keepS_succ G n k hk]
  unfold keepStep
  rw [if_neg h]
theorem keep_below (G : List StP) (n : Int) : (keepS G n).map (zfix n) = forgS G n := by
  have key : ∀ (L o1 o2 : List StP), o1.map (zfix n) = o2.map (zfix n) → (L.foldl (keepStep n) o1).map (zfix n) = (L.foldl (belowStep n) o2).map (zfix n) := by
    intro L
    induction L with
    | nil => intro o1 o2 h; exact h
    | cons x L ih =>
      intro o1 o2 h
      rw [List.foldl_cons, List.foldl_cons]
      refine ih _ _ ?_
      have hn : o1.map StP.n = o2.map StP.n := by
        have := congrArg (List.map StP.n) h
        rw [List.map_map, List.map_map] at this
        have e : ∀ o : List StP, o.map (StP.n ∘ zfix n) = o.map StP.n := fun o => List.map_congr_left fun y _ => zfix_n n y
        rw [e, e] at this
        exact this
      have hc : (∃ o ∈ o1, o.n = x.up) ↔ ∃ o ∈ o2, o.n = x.up := by
        have e : ∀ o : List StP, (∃ y ∈ o, y.n = x.up) ↔ x.up ∈ o.map StP.n := fun o => List.mem_map.symm
        rw [e, e, hn]
      unfold keepStep belowStep
      by_cases hx : x.n = n ∨ ∃ o ∈ o1, o.n = x.up
      · have hx2 : x.n = n ∨ ∃ o ∈ o2, o.n = x.up := hx.imp id hc.1
        rw [if_pos hx, if_pos hx2, List.map_append, List.map_append, h]
        congr 1
        by_cases e : x.n = n
        · rw [if_pos e]
          show [zfix n x] = [zfix n ⟨x.n, -1, x.e⟩]
          unfold zfix
          rw [if_pos e, if_pos e]
        · rw [if_neg e]
      · have hx2 : ¬ (x.n = n ∨ ∃ o ∈ o2, o.n = x.up) := fun h' => hx (h'.imp id hc.2)
        rw [if_neg hx, if_neg hx2]
        exact h
  exact key G [] [] rfl
theorem keep_has {G : List StP} {n : Int} (h : ∃ x ∈ G, x.n = n) : ∃ x ∈ keepS G n, x.n = n := by
  obtain ⟨o, ho, e⟩ := below_has h
  have : n ∈ (forgS G n).map StP.n := by rw [forg_nums]; exact List.mem_map.2 ⟨o, ho, e⟩
  rw [← keep_below, List.map_map] at this
  obtain ⟨x, hx, e2⟩ := List.mem_map.1 this
  exact ⟨x, hx, (zfix_n n x).symm.trans e2⟩
end Go.Proofs.Ytfeaffabminpfaa

/-
  The landed list of states and the document's are alike: layer 8.
-/
import Derived.Test.YtfeaffabminpfaaHiHx
import Derived.Test.YtfeaffabminpfaaHsFull
namespace Go.Proofs.Ytfeaffabminpfaa
open Go.RowKit

/-- one state, told twice: where it has a parent its edits are one -/
structure SameK (g x : StP) : Prop where
  n : g.n = x.n
  up : g.up = x.up
  e : 0 ≤ x.up → g.e.a = x.e.a ∧ g.e.S = x.e.S ∧ g.e.l = x.e.l ∧ g.e.X = x.e.X ∧ g.e.m = x.e.m
def Alike : List StP → List StP → Prop
  | [], [] => True
  | g :: G, x :: L => SameK g x ∧ Alike G L
  | _, _ => False
theorem SameK.rfl' (g : StP) : SameK g g := ⟨rfl, rfl, fun _ => ⟨rfl, rfl, rfl, rfl, rfl⟩⟩
theorem alike_one {g x : StP} (h : SameK g x) : Alike [g] [x] := ⟨h, trivial⟩
theorem alike_nums : ∀ {G L : List StP}, Alike G L → G.map StP.n = L.map StP.n
  | [], [], _ => rfl
  | g :: G, x :: L, h => by rw [List.map_cons, List.map_cons, h.1.n, alike_nums h.2]
theorem alike_len {G L : List StP} (h : Alike G L) : G.length = L.length := by have := congrArg List.length (alike_nums h); simpa using this
theorem alike_at : ∀ {G L : List StP}, Alike G L → ∀ (i : Nat) (hi : i < G.length) (hj : i < L.length), SameK G[i] L[i]
  | g :: G, x :: L, h, 0, _, _ => h.1
  | g :: G, x :: L, h, i + 1, hi, hj => alike_at h.2 i (by simpa using hi) (by simpa using hj)
theorem alike_find : ∀ {G L : List StP}, Alike G L → ∀ n, SameK (findS G n).1 (findS L n).1 ∧ (findS G n).2 = (findS L n).2
  | [], [], _, _ => ⟨SameK.rfl' _, rfl⟩
  | g :: G, x :: L, h, n => by
    rw [findS_cons, findS_cons, h.1.n]
    by_cases e : x.n = n
    · rw [if_pos e, if_pos e]; exact ⟨h.1, rfl⟩
    · rw [if_neg e, if_neg e]; exact alike_find h.2 n
theorem alike_back {G L : List StP} (h : Alike G L) : ∀ (k : Nat) (n : Int), backN G k n = backN L k n := by
  intro k
  induction k with
  | zero => intro n; rfl
  | succ k ih => intro n; rw [backN_succ, backN_succ, (alike_find h n).1.up, ih]
theorem alike_path {G L : List StP} (h : Alike G L) (now : Int) : pathS G now = pathS L now := by
  unfold pathS
  rw [alike_len h, alike_back h]
theorem alike_app : ∀ {G L G' L' : List StP}, Alike G L → Alike G' L' → Alike (G ++ G') (L ++ L')
  | [], [], _, _, _, h' => h'
  | _g :: _G, _x :: _L, _, _, h, h' => ⟨h.1, alike_app h.2 h'⟩
theorem alike_has {G L : List StP} (h : Alike G L) (n : Int) : (∃ o ∈ G, o.n = n) ↔ ∃ o ∈ L, o.n = n := by
  have e : ∀ o : List StP, (∃ y ∈ o, y.n = n) ↔ n ∈ o.map StP.n := fun o => List.mem_map.symm
  rw [e, e, alike_nums h]
theorem alike_step {n : Int} {o1 o2 : List StP} (h : Alike o1 o2) {g x : StP} (hs : SameK g x) : Alike (belowStep n o1 g) (belowStep n o2 x) := by
  unfold belowStep
  by_cases hc : g.n = n ∨ ∃ o ∈ o1, o.n = g.up
  · have hc2 : x.n = n ∨ ∃ o ∈ o2, o.n = x.up := by rw [← hs.n, ← hs.up]; exact hc.imp id (alike_has h _).1
    rw [if_pos hc, if_pos hc2]
    refine alike_app h ⟨?_, trivial⟩
    rw [← hs.n]
    by_cases e : g.n = n
    · rw [if_pos e, if_pos e]; exact ⟨rfl, rfl, fun h0 => by simp at h0⟩
    · rw [if_neg e, if_neg e]; exact hs
  · have hc2 : ¬ (x.n = n ∨ ∃ o ∈ o2, o.n = x.up) := by rw [← hs.n, ← hs.up]; exact fun h' => hc (h'.imp id (alike_has h _).2)
    rw [if_neg hc, if_neg hc2]
    exact h
theorem alike_below {G L : List StP} (h : Alike G L) (n : Int) : Alike (belowS G n) (belowS L n) := by
  have key : ∀ (G L o1 o2 : List StP), Alike G L → Alike o1 o2 → Alike (G.foldl (belowStep n) o1) (L.foldl (belowStep n) o2) := by
    intro G
    induction G with
    | nil => intro L o1 o2 h h'; cases L with | nil => exact h' | cons x L => exact absurd h (by simp [Alike])
    | cons g G ih =>
      intro L o1 o2 h h'
      cases L with
      | nil => exact absurd h (by simp [Alike])
      | cons x L => rw [List.foldl_cons, List.foldl_cons]; exact ih L _ _ h.2 (alike_step h' h.1)
  exact key G L [] [] h trivial
theorem alike_fix {n : Int} : ∀ {G L : List StP}, Alike G L → (∀ x ∈ L, x.n = n → x.up = -1) → Alike (G.map (zfix n)) L
  | [], [], _, _ => trivial
  | g :: G, x :: L, h, hu => by
    refine ⟨?_, alike_fix h.2 fun y hy => hu y (List.mem_cons_of_mem _ hy)⟩
    unfold zfix
    by_cases e : g.n = n
    · rw [if_pos e]
      have hx := hu x (List.mem_cons_self ..) (by rw [← h.1.n, e])
      exact ⟨by rw [← h.1.n, e], hx.symm, fun h0 => by omega⟩
    · rw [if_neg e]; exact h.1
theorem alike_forg {G L : List StP} (h : Alike G L) (n : Int) : Alike (forgS G n) (belowS L n) := alike_fix (alike_below h n) below_up
/-- the document's Add, as a list -/
def addL (L : List StP) (dep now : Int) (L' : List StP) : Prop := ((L.length : Int) ≤ dep + 1 ∧ L' = L) ∨ (dep + 1 < (L.length : Int) ∧ ∃ r0 p1 rest, pathS L now = r0 :: p1 :: rest ∧ L' = belowS L p1)
theorem alike_add {G L G' L' : List StP} {dep now : Int} (h : Alike G L) (hg : AddTo G dep now G') (hl : addL L dep now L') : Alike G' L' := by
  have e := alike_len h
  rcases hg with ⟨h1, rfl⟩ | ⟨h1, r0, p1, rest, hp, rfl⟩
  · rcases hl with ⟨_, rfl⟩ | ⟨h2, _⟩
    · exact h
    · omega
  · rcases hl with ⟨h2, _⟩ | ⟨_, r0', p1', rest', hp', rfl⟩
    · omega
    · rw [alike_path h, hp'] at hp
      injection hp with _ hp
      injection hp with hp _
      subst hp
      exact alike_forg h p1'
theorem below_sub {L : List StP} {n : Int} : ∀ x ∈ belowS L n, ∃ y ∈ L, x.e = y.e := by
  have key : ∀ (L out M : List StP), (∀ x ∈ out, ∃ y ∈ M ++ L, x.e = y.e) → ∀ x ∈ L.foldl (belowStep n) out, ∃ y ∈ M ++ L, x.e = y.e := by
    intro L
    induction L with
    | nil => intro out M h; exact h
    | cons y L ih =>
      intro out M h x hx
      rw [List.foldl_cons] at hx
      have := ih (belowStep n out y) (M ++ [y]) (fun z hz => by
        rw [List.append_assoc]
        unfold belowStep at hz
        split at hz
        · rcases List.mem_append.1 hz with hz | hz
          · exact h z hz
          · rw [List.mem_singleton.1 hz]
            exact ⟨y, by simp, by split <;> rfl⟩
        · exact h z hz) x hx
      rwa [List.append_assoc] at this
  intro x hx
  have := key L [] [] (by simp) x hx
  simpa using this
/-- the document's history in memory: its row, the runs in its edits -/
structure RefH (w : World) (P : Nat → Prop) (A : Option Addr) (L : List StP) : Prop where
  row : RowO w P A (flatS L)
  eds : ∀ s ∈ L, TxO w P s.e.A s.e.S s.e.l ∧ TxO w P s.e.B s.e.X s.e.m
theorem RefH.tch {w w' : World} {P : Nat → Prop} {A : Option Addr} {L : List StP} (h : RefH w P A L) (hc : Tch P w w') : RefH w' P A L := ⟨h.row.tch hc, fun s hs => ⟨(h.eds s hs).1.tch hc, (h.eds s hs).2.tch hc⟩⟩
theorem RefH.fresh {w w' : World} {P : Nat → Prop} {A : Option Addr} {L : List StP} (h : RefH w P A L) (hb : Below w.heap.size w w') : RefH w' P A L := h.tch (Tch.fresh hb)
theorem RefH.rows {w : World} {P : Nat → Prop} {A : Option Addr} {L : List StP} (h : RefH w P A L) : Row w w.heap.size A (flatS L) := h.row.row

/-- the document's Add -/
theorem refAdd_any {A : Option Addr} {c : Nat} {L G : List StP} {now last dep : Int} {w : World} {P : Nat → Prop} (h : RefH w P A L) (ha : Alike G L) (inv : InvS G now last dep) (hd : dep ≤ 64) (hlast : last ≤ 1000) {a : Int} {S : List UInt8} {A1 : Option Addr} {l : List RunP} {c1 : Nat} {X : List UInt8} {B1 : Option Addr} {m : List RunP} {d : Nat} (hS : TxO w P A1 S l) (hX : TxO w P B1 X m) (hg : goodE a S l X m = true) (hP : ∀ k, P k → k < w.heap.size) :
    Calls Try.prog 18 #[.agg #[.slice A L.length c, .int .i64 now, .int .i64 (last + 1), .int .i64 dep], .agg #[.int .i64 a, .string ⟨S.toArray⟩, .slice A1 l.length c1, .string ⟨X.toArray⟩, .slice B1 m.length d]] w fun e w' => ∃ A' c' L', e = .returned (.tuple #[.agg #[.slice A' L'.length c', .int .i64 (last + 1), .int .i64 (last + 1 + 1), .int .i64 dep], .int .i64 (last + 1), .int .i64 0]) ∧ RefH w' P A' L' ∧ addL (L ++ [⟨last + 1, now, ⟨a, S, A1, l, c1, X, B1, m, d⟩⟩]) dep (last + 1) L' ∧ Below w.heap.size w w' := by
  have hlen := alike_len ha
  have hsm := inv.small
  have hG := inv.hlen
  have hnow := inv.nowLow
  have hpos := inv.pos
  have hups : ∀ x ∈ L, x.n ≠ last + 1 := fun x hx => by
    obtain ⟨i, hi, rfl⟩ := List.getElem_of_mem hx
    have hs := alike_at ha i (by omega) hi
    have := (inv.hlow _ (List.getElem_mem (show i < G.length by omega))).2
    rw [← hs.n]; omega
  have heds : ∀ s ∈ L ++ [StP.mk (last + 1) now ⟨a, S, A1, l, c1, X, B1, m, d⟩], TxO w P s.e.A s.e.S s.e.l ∧ TxO w P s.e.B s.e.X s.e.m := fun s hs => by
    rcases List.mem_append.1 hs with hs | hs
    · exact h.eds s hs
    · rw [List.mem_singleton.1 hs]; exact ⟨hS, hX⟩
  have hrow : ∀ {A' : Option Addr} {n c' : Nat} {M : List StP} {w' : World}, w'.ownsRow w.heap.size 76 7 (.slice A' n c') n (flatS M) → RowO w' P A' (flatS M) := by
    intro A' n c' M w' ho
    exact RowO.of_rowG (rowG_own ho) (fun k hk hp => by have := hP k hp; omega)
  by_cases hf : (L.length : Int) ≤ dep
  · refine (refHAdd_fit A c w.heap.size L now (last + 1) dep (by omega) w (Nat.le_refl _) h.rows a S A1 l c1 X B1 m d hS.txu hX.txu hg (by omega) hf).mono ?_
    rintro e w' ⟨A', c', rfl, ho, hb⟩
    refine ⟨A', c', _, rfl, ⟨hrow ho, fun s hs => ⟨(heds s hs).1.fresh hb, (heds s hs).2.fresh hb⟩⟩, Or.inl ⟨by simp; omega, rfl⟩, hb⟩
  · obtain ⟨r0, p1, rest, hp⟩ := path_two (s := StP.mk (last + 1) now ⟨a, S, A1, l, c1, X, B1, m, d⟩) (show 0 < L.length by omega) hups (show 0 ≤ last + 1 by omega) hnow.1
    have hA : Alike (G ++ [⟨last + 1, now, ⟨a, S, A1, l, c1, X, B1, m, d⟩⟩]) (L ++ [⟨last + 1, now, ⟨a, S, A1, l, c1, X, B1, m, d⟩⟩]) := alike_app ha ⟨SameK.rfl' _, trivial⟩
    have hinv := (inv.more (s := ⟨last + 1, now, ⟨a, S, A1, l, c1, X, B1, m, d⟩⟩) rfl rfl hd).forget inv.hdep.1 (by simp; omega) (by rw [alike_path hA]; exact hp)
    have hless := hinv.hlen
    rw [alike_len (alike_forg hA p1)] at hless
    refine (refHAdd_full A c w.heap.size L now (last + 1) dep (by omega) w (Nat.le_refl _) h.rows a S A1 l c1 X B1 m d hS.txu hX.txu hg (by omega) (by omega) r0 p1 rest hp hless).mono ?_
    rintro e w' ⟨A', c', rfl, ho, hb⟩
    refine ⟨A', c', _, rfl, ⟨hrow ho, fun s hs => ?_⟩, Or.inr ⟨by simp; omega, r0, p1, rest, hp, rfl⟩, hb⟩
    obtain ⟨y, hy, e⟩ := below_sub s hs
    rw [e]
    exact ⟨(heds y hy).1.fresh hb, (heds y hy).2.fresh hb⟩
end Go.Proofs.Ytfeaffabminpfaa

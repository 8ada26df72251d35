/-
  Merged: ObLand, ObRow, ObWrd, ObPair.
-/
import Derived.Test.YtnkhlallnblfmaaObTile
import Derived.Test.YtnkhlallnblfmaaObBal
import Derived.Test.YtnkhlallnblfmaaM12p
import Derived.Test.YtnkhlallnblfmaaLinGly
import Derived.Test.YtnkhlallnblfmaaGlyProof
import Derived.Test.YtnkhlallnblfmaaLinOwn
/-
  Plain facts for the landed object: the first pair of brackets to close about a place is the innermost; the first quotes that end no earlier: layer 13.
-/
namespace Go.Proofs.Ytnkhlallnblfmaa
open Go.RowKit

theorem about_snoc (L : List RwO) (x : RwO) (a : Nat) : aboutM (L ++ [x]) a = aboStep a (aboutM L a) x := by
  unfold aboutM
  rw [List.foldl_append]
  rfl
/-- what is open lies one behind the other, and ahead of where it was read to -/
def RiseO (P : List Nat) (i : Nat) : Prop := P.Pairwise (· < ·) ∧ ∀ x ∈ P, x < i
theorem brStep_rise {o s b : UInt8} {i : Nat} {L : List RwO} {P : List Nat} (h : RiseO P i) : RiseO (brStep o s b i (L, P)).2 (i + 1) := by
  by_cases ho : b = o
  · rw [brStep_open ho]
    refine ⟨List.pairwise_append.2 ⟨h.1, List.pairwise_singleton _ _, fun x hx y hy => ?_⟩, fun x hx => ?_⟩
    · rw [List.mem_singleton.1 hy]; exact h.2 x hx
    · rcases List.mem_append.1 hx with hx | hx
      · have := h.2 x hx; omega
      · rw [List.mem_singleton.1 hx]; omega
  · by_cases hs : b = s
    · rcases List.eq_nil_or_concat P with rfl | ⟨Q, x, rfl⟩
      · rw [brStep_none ho]; exact ⟨List.Pairwise.nil, fun x hx => by simp at hx⟩
      · rw [List.concat_eq_append] at h ⊢
        rw [brStep_shut ho hs]
        exact ⟨(List.pairwise_append.1 h.1).1, fun y hy => by have := h.2 y (List.mem_append_left _ hy); omega⟩
    · rw [brStep_else ho hs]
      exact ⟨h.1, fun y hy => by have := h.2 y hy; omega⟩
theorem brTo_rise (S : List UInt8) (o s : UInt8) (i : Nat) : RiseO (brTo S o s i).2 i := by
  induction i with
  | zero => exact ⟨List.Pairwise.nil, fun x hx => by simp [brTo] at hx⟩
  | succ i ih => exact brStep_rise (L := (brTo S o s i).1) ih
theorem found_step {o s b : UInt8} {a j : Nat} {x : RwO} {st : List RwO × List Nat} (hj : a < j) (h : aboutM st.1 a = some x ∧ ∀ y ∈ st.2, y < x.1 ∨ a < y) :
    aboutM (brStep o s b j st).1 a = some x ∧ ∀ y ∈ (brStep o s b j st).2, y < x.1 ∨ a < y := by
  obtain ⟨L, P⟩ := st
  dsimp only at h
  by_cases ho : b = o
  · rw [brStep_open ho]
    refine ⟨h.1, fun y hy => ?_⟩
    rcases List.mem_append.1 hy with hy | hy
    · exact h.2 y hy
    · rw [List.mem_singleton.1 hy]; exact .inr hj
  · by_cases hs : b = s
    · rcases List.eq_nil_or_concat P with rfl | ⟨Q, z, rfl⟩
      · rw [brStep_none ho]; exact h
      · rw [List.concat_eq_append] at h ⊢
        rw [brStep_shut ho hs]
        refine ⟨?_, fun y hy => h.2 y (List.mem_append_left _ hy)⟩
        show aboutM (L ++ [(z, j, 0)]) a = some x
        rw [about_snoc, h.1]
        unfold aboStep
        rw [if_neg]
        rintro ⟨h1, h2, h3⟩
        have h1' : z ≤ a := h1
        have h4 : x.1 < z := h3 x rfl
        rcases h.2 z (by simp) with h5 | h5 <;> omega
    · rw [brStep_else ho hs]; exact h
theorem found_to {S : List UInt8} {o s : UInt8} {a i : Nat} {x : RwO} (hi : a < i) (h : aboutM (brTo S o s i).1 a = some x ∧ ∀ y ∈ (brTo S o s i).2, y < x.1 ∨ a < y) (m : Nat) :
    aboutM (brTo S o s (i + m)).1 a = some x ∧ ∀ y ∈ (brTo S o s (i + m)).2, y < x.1 ∨ a < y := by
  induction m with
  | zero => exact h
  | succ m ih => exact found_step (show a < i + m by omega) ih
/-- the first pair to close about a is the innermost -/
theorem about_first {S : List UInt8} {o s : UInt8} {a i k : Nat} {Q : List Nat} {L : List RwO} (hi : i < S.length) (h : brTo S o s i = (L, Q ++ [k])) (hs : brTo S o s (i + 1) = (L ++ [(k, i, 0)], Q)) (hn : aboutM L a = none) (h1 : k ≤ a) (h3 : a ≤ i) : aboutM (bracketsM S o s) a = some (k, i, 0) := by
  have hr := brTo_rise S o s i
  rw [h] at hr
  have hf : aboutM (brTo S o s (i + 1)).1 a = some (k, i, 0) ∧ ∀ y ∈ (brTo S o s (i + 1)).2, y < k ∨ a < y := by
    rw [hs]
    refine ⟨?_, fun y hy => .inl ?_⟩
    · rw [about_snoc, hn]; exact if_pos ⟨h1, h3, fun b hb => by cases hb⟩
    · exact (List.pairwise_append.1 hr.1).2.2 y hy k (by simp)
  have := (found_to (x := (k, i, 0)) (show a < i + 1 by omega) hf (S.length - (i + 1))).1
  rw [show i + 1 + (S.length - (i + 1)) = S.length by omega] at this
  exact this
theorem about_miss {L : List RwO} {a k i : Nat} (hn : aboutM L a = none) (h : ¬ (k ≤ a ∧ a ≤ i)) : aboutM (L ++ [(k, i, 0)]) a = none := by
  rw [about_snoc, hn]
  exact if_neg fun h' => h ⟨h'.1, h'.2.1⟩

/-! Quotes. -/
theorem abo_keep {a : Nat} : ∀ (L : List RwO) (b : Option RwO), (∀ x ∈ L, ¬ (x.1 ≤ a ∧ a ≤ x.2.1)) → L.foldl (aboStep a) b = b
  | [], _, _ => rfl
  | x :: L, b, h => by
    have e : aboStep a b x = b := if_neg fun h' => h x List.mem_cons_self ⟨h'.1, h'.2.1⟩
    rw [List.foldl_cons, e]
    exact abo_keep L b fun y hy => h y (List.mem_cons_of_mem _ hy)
/-- all pairs so far end ahead of a -/
def AheadQ (a : Nat) (L : List RwO) : Prop := ∀ x ∈ L, x.1 ≤ x.2.1 ∧ x.2.1 < a
theorem ahead_find {a : Nat} {L : List RwO} (h : AheadQ a L) : L.find? (fun x => decide (a < x.1)) = none :=
  List.find?_eq_none.2 fun x hx => by have := h x hx; simp; omega
theorem quote_ahead {a : Nat} {L : List RwO} (h : AheadQ a L) : quoteAt L a = none := by
  unfold quoteAt aboutM
  rw [abo_keep L none fun x hx => by have := h x hx; omega]
  exact ahead_find h
theorem quote_first {a : Nat} {L M : List RwO} {x : RwO} (h : AheadQ a L) (_h1 : x.1 ≤ x.2.1) (h2 : a ≤ x.2.1) (hM : ∀ y ∈ M, x.2.1 < y.1) : quoteAt (L ++ [x] ++ M) a = some x := by
  have e : aboutM (L ++ [x] ++ M) a = aboStep a none x := by
    unfold aboutM
    rw [List.foldl_append, List.foldl_append, abo_keep L none fun y hy => by have := h y hy; omega, abo_keep M _ fun y hy => by have := hM y hy; omega]
    rfl
  unfold quoteAt
  rw [e]
  by_cases h3 : x.1 ≤ a
  · have : aboStep a none x = some x := if_pos ⟨h3, h2, fun b hb => by cases hb⟩
    rw [this]
  · have : aboStep a none x = none := if_neg fun h' => h3 h'.1
    rw [this]
    dsimp only
    rw [List.append_assoc, List.find?_append, ahead_find h]
    show ((x :: M).find? fun y => decide (a < y.1)) = some x
    rw [List.find?_cons_of_pos (by simp; omega)]
theorem qu_rest {S : List UInt8} {q : UInt8} {f j : Nat} {M : List RwO} (h : quTo S q f j = (M, none)) : ∀ m, ∃ N, (quTo S q f (j + m)).1 = M ++ N ∧ (∀ y ∈ N, f + j ≤ y.1) ∧ ∀ k, (quTo S q f (j + m)).2 = some k → f + j ≤ k := by
  intro m
  induction m with
  | zero => exact ⟨[], by rw [Nat.add_zero, h]; simp, fun y hy => by simp at hy, fun k hk => by rw [Nat.add_zero, h] at hk; cases hk⟩
  | succ m ih =>
    obtain ⟨N, h1, h2, h3⟩ := ih
    show ∃ N, (quStep q (S.getD (f + (j + m)) 0) (f + (j + m)) (quTo S q f (j + m))).1 = M ++ N ∧ _ ∧ ∀ k, (quStep q (S.getD (f + (j + m)) 0) (f + (j + m)) (quTo S q f (j + m))).2 = some k → _
    generalize quTo S q f (j + m) = st at *
    obtain ⟨L, P⟩ := st
    dsimp only at h1 h3
    subst h1
    unfold quStep
    by_cases hq : S.getD (f + (j + m)) 0 = q
    · rw [if_pos hq]
      cases P with
      | none => exact ⟨N, rfl, h2, fun k hk => by injection hk with hk; omega⟩
      | some k =>
        refine ⟨N ++ [(k, f + (j + m), 0)], List.append_assoc _ _ _, fun y hy => ?_, fun k hk => by cases hk⟩
        rcases List.mem_append.1 hy with hy | hy
        · exact h2 y hy
        · rw [List.mem_singleton.1 hy]; exact h3 k rfl
    · rw [if_neg hq]
      exact ⟨N, rfl, h2, h3⟩
end Go.Proofs.Ytnkhlallnblfmaa

/-
  Contracts of the landed package object: class, row.
-/
namespace Go.Proofs.Ytnkhlallnblfmaa
open Go.RowKit

theorem obAt_any (S : List UInt8) (hs : S.length ≤ 1000000) (j : Nat) (hj : j ≤ (chars S).length) (w : World) : Calls Try.prog 39 #[.string ⟨S.toArray⟩, .int .i64 (atM S j : Nat)] w fun e w' => e = .returned (.tuple #[.int .i32 (((chars S).getD j (0, 0)).1 : Nat), .int .i64 (((chars S).getD j (0, 0)).2 : Nat)]) ∧ Below w.heap.size w w' :=
  (glyAt_any S _ w hs).mono fun _ _ ⟨i, he, hi, hb⟩ => ⟨by rw [he, hi.unique (which_self hj)], hb⟩
theorem obPrev_any (S : List UInt8) (hs : S.length ≤ 1000000) (j : Nat) (hj : j ≤ (chars S).length) (w : World) : Calls Try.prog 32 #[.string ⟨S.toArray⟩, .int .i64 (atM S j : Nat)] w fun e w' => e = .returned (.int .i64 (atM S (j - 1) : Nat)) ∧ Below w.heap.size w w' :=
  (glyPrev_any S _ w hs).mono fun _ _ ⟨i, he, hi, hb⟩ => ⟨by rw [he, hi.unique (which_self hj)]; rfl, hb⟩
theorem obNext_any (S : List UInt8) (hs : S.length ≤ 1000000) (j : Nat) (hj : j ≤ (chars S).length) (w : World) : Calls Try.prog 38 #[.string ⟨S.toArray⟩, .int .i64 (atM S j : Nat)] w fun e w' => e = .returned (.int .i64 (atM S (j + 1) : Nat)) ∧ Below w.heap.size w w' :=
  (glyNext_any S _ w hs).mono fun _ _ ⟨i, he, hi, hb⟩ => ⟨by rw [he, hi.unique (which_self hj)]; rfl, hb⟩
theorem obAlign_any (S : List UInt8) (hs : S.length ≤ 1000000) (p : Int) (w : World) : Calls Try.prog 14 #[.string ⟨S.toArray⟩, .int .i64 p] w fun e w' => e = .returned (.int .i64 (alignM S p : Nat)) ∧ Below w.heap.size w w' :=
  (glyAlign_any S _ w hs).mono fun _ _ ⟨i, he, hi, hb⟩ => ⟨by rw [he, hi.unique (which_is _ _)]; rfl, hb⟩
theorem obRune_le (S : List UInt8) (i : Nat) : ((chars S).getD i (0, 0)).1 ≤ 1114111 := by
  rw [List.getD_eq_getElem?_getD]
  cases h : (chars S)[i]? with
  | none => simp
  | some y => exact (chars_bound S y (List.mem_of_getElem? h)).1
theorem obAt_le (S : List UInt8) (i : Nat) : atM S i ≤ S.length := by
  have := width_le_take (chars S) i
  rw [width_chars] at this
  exact this
theorem obAt_zero (S : List UInt8) : atM S 0 = 0 := by simp [atM, width]
theorem obAt_last (S : List UInt8) : atM S (chars S).length = S.length := by
  unfold atM
  rw [List.take_of_length_le (Nat.le_refl _), width_chars]
theorem below_chain {B : Nat} {w w1 w2 : World} (h : Below B w w1) (hB : B ≤ w1.heap.size) (h2 : Below w1.heap.size w1 w2) : Below B w w2 := h.trans (h2.mono hB)
set_option maxHeartbeats 1000000 in
theorem obCls_any (S : List UInt8) (hS : S.length ≤ 1000000) (j : Nat) (hj : j ≤ (chars S).length) (w : World) :
    Calls Try.prog 31 #[.string ⟨S.toArray⟩, .int .i64 (atM S j : Nat)] w fun e w' => e = .returned (.int .i64 (clsM (chars S) j : Nat)) ∧ Below w.heap.size w w' := by
  have HG := Lib.hid (fun w => obAt_any S hS j hj w)
  have hr := obRune_le S j
  have HC : Hid (clsM (chars S) j = classL ((chars S).getD j (0, 0)).1) := rfl
  clear hj
  generalize (chars S).getD j (0, 0) = y at *
  obtain ⟨r, l⟩ := y
  dsimp only at hr HC HG
  generalize clsM (chars S) j = c at *
  generalize atM S j = p at *
  go_enter Try.func31, Try.ntmps31
  go_wp2_with (first
    | (go_at_call 39; refine (HG.out _).mono ?_; rintro e w1 ⟨rfl, b1⟩)
    | (go_at_call 40; refine (glyClass_any r hr _).mono ?_; rintro e w2 ⟨rfl, hw⟩; subst hw))
  go_ret
  exact ⟨by rw [HC.out]; rfl, b1⟩
set_option maxHeartbeats 4000000 in
theorem obRow_any (S : List UInt8) (hS : S.length ≤ 1000000) {R : List RwO} {b : Nat → Nat} (HT : TileB (chars S) (chars S).length R b) {t i : Nat} (ht : t < R.length) (h1 : b t ≤ i) (h2 : i < b (t + 1)) (w : World) :
    Calls Try.prog 30 #[.string ⟨S.toArray⟩, .int .i64 (atM S i : Nat)] w (GivesPP w (atM S (b t), atM S (b (t + 1)))) := by
  have hlast : b (t + 1) ≤ (chars S).length := by
    have := HT.mono (show t + 1 ≤ R.length by omega) (Nat.le_refl _)
    rwa [HT.last] at this
  obtain ⟨c, hc⟩ : ∃ c, clsM (chars S) (b t) = c := ⟨_, rfl⟩
  have HCL : Hid (∀ j, b t ≤ j → j < b (t + 1) → ∀ wz, Calls Try.prog 31 #[.string ⟨S.toArray⟩, .int .i64 (atM S j : Nat)] wz fun e w' => e = .returned (.int .i64 (c : Nat)) ∧ Below wz.heap.size wz w') := fun j h3 h4 wz => by
    have := obCls_any S hS j (by omega) wz
    rwa [HT.one t j ht h3 h4, hc] at this
  have HPV : Hid (∀ j, j ≤ i → ∀ wz, Calls Try.prog 32 #[.string ⟨S.toArray⟩, .int .i64 (atM S j : Nat)] wz fun e w' => e = .returned (.int .i64 (atM S (j - 1) : Nat)) ∧ Below wz.heap.size wz w') := fun j hj wz => obPrev_any S hS j (by omega) wz
  have HNX : Hid (∀ j, j < b (t + 1) → ∀ wz, Calls Try.prog 38 #[.string ⟨S.toArray⟩, .int .i64 (atM S j : Nat)] wz fun e w' => e = .returned (.int .i64 (atM S (j + 1) : Nat)) ∧ Below wz.heap.size wz w') := fun j hj wz => obNext_any S hS j (by omega) wz
  have HLO : Hid (0 < b t → ∃ c' : Nat, ((c' : Int) == (c : Int)) = false ∧ ∀ wz, Calls Try.prog 31 #[.string ⟨S.toArray⟩, .int .i64 (atM S (b t - 1) : Nat)] wz fun e w' => e = .returned (.int .i64 (c' : Nat)) ∧ Below wz.heap.size wz w') := fun h0 => by
    have h5 : 0 < t := by
      rcases Nat.eq_zero_or_pos t with h | h
      · rw [h, HT.zero] at h0; omega
      · exact h
    obtain ⟨u, rfl⟩ : ∃ u, t = u + 1 := ⟨t - 1, by omega⟩
    have h6 := HT.less u (by omega)
    have h7 := HT.one u (b (u + 1) - 1) (by omega) (by omega) (by omega)
    have h8 := HT.next u (by omega)
    refine ⟨clsM (chars S) (b u), ?_, fun wz => ?_⟩
    · rw [hc] at h8
      rw [beq_eq_false_iff_ne]; omega
    · have := obCls_any S hS (b (u + 1) - 1) (by omega) wz
      rwa [h7] at this
  have HHI : Hid (b (t + 1) < (chars S).length → ∃ c' : Nat, ((c' : Int) == (c : Int)) = false ∧ ∀ wz, Calls Try.prog 31 #[.string ⟨S.toArray⟩, .int .i64 (atM S (b (t + 1)) : Nat)] wz fun e w' => e = .returned (.int .i64 (c' : Nat)) ∧ Below wz.heap.size wz w') := fun h0 => by
    have h5 : t + 1 < R.length := by
      rcases Nat.lt_or_ge (t + 1) R.length with h | h
      · exact h
      · rw [show t + 1 = R.length by omega, HT.last] at h0; omega
    have h8 := HT.next t h5
    refine ⟨clsM (chars S) (b (t + 1)), ?_, fun wz => obCls_any S hS _ hlast wz⟩
    rw [hc] at h8
    rw [beq_eq_false_iff_ne]; omega
  have HLT : Hid (∀ {j k : Nat}, j < k → k ≤ b (t + 1) → atM S j < atM S k) := fun {j k} h3 h4 => (atM_lt (by omega) (by omega)).2 h3
  have HZ := Lib.hid (obAt_zero S)
  have HN : Hid (b (t + 1) = (chars S).length → atM S (b (t + 1)) = S.length) := fun h => by rw [h]; exact obAt_last S
  have HNL : Hid (b (t + 1) < (chars S).length → atM S (b (t + 1)) < S.length) := fun h => by
    rw [← obAt_last S]; exact (atM_lt (by omega) (by omega)).2 h
  have HSL : Hid (∀ j, j < b (t + 1) → atM S j < S.length) := fun j h => by
    rw [← obAt_last S]; exact (atM_lt (by omega) (by omega)).2 (by omega)
  clear HT hc
  generalize (chars S).length = n at *
  generalize b t = f at *
  generalize b (t + 1) = u at *
  clear ht b R
  go_enter Try.func30, Try.ntmps30
  go_wp2_with (first
    | (go_at_call 31; refine (HCL.out i h1 h2 _).mono ?_; rintro e w1 ⟨rfl, b1⟩)
    | (go_at_call 38; refine (HNX.out i h2 _).mono ?_; rintro e w2 ⟨rfl, b2⟩; replace b2 := b1.trans (b2.mono b1.size)))
  clear b1
  go_loopw [4] (fun x wr => ∃ j : Nat, f ≤ j ∧ j ≤ i ∧ x = .int .i64 (atM S j : Nat) ∧ Below w.heap.size w wr) (fun x _ => (intOf x).toNat)
  case atStart => exact ⟨i, h1, Nat.le_refl _, rfl, b2⟩
  case round =>
    clear b2
    obtain ⟨j, hj1, hj2, rfl, bb⟩ := hrel
    by_cases hz : f < j
    · have hl := HLT.out (show j - 1 < j by omega) (by omega)
      have hp0 : (0 : Int) < (atM S j : Int) := by omega
      have hp1 : 0 < atM S j := by omega
      have HC1 := Lib.hid (HCL.out (j - 1) (by omega) (by omega))
      have HP1 := Lib.hid (HPV.out j hj2)
      generalize hp : atM S j = p at *
      generalize hq : atM S (j - 1) = q at *
      have HQ := Lib.hid hq
      clear hp hq
      go_wp2_with (first
        | (go_at_call 31; refine (HC1.out _).mono ?_; rintro e w4 ⟨rfl, b4⟩; replace b4 := b3.trans (b4.mono b3.size))
        | (go_at_call 32; refine use_factM b4 ?_; intro _; refine (HP1.out _).mono ?_; rintro e w5 ⟨rfl, b5⟩; replace b5 := b4.trans (b5.mono b4.size))
        | (go_at_call 32; refine (HP1.out _).mono ?_; rintro e w3 ⟨rfl, b3⟩; replace b3 := bb.trans (b3.mono bb.size)))
      go_roundw
      case rel => exact ⟨j - 1, by omega, by omega, by rw [HQ.out], b5⟩
      case measure => simp [intOf]; omega
    · obtain rfl : j = f := by omega
      clear hz
      rcases Nat.eq_zero_or_pos j with h0 | h0
      · have hp0 : ¬ (0 : Int) < (atM S j : Int) := by rw [h0, HZ.out]; decide
        have hp1 : ¬ 0 < atM S j := by omega
        generalize hpj : atM S j = p at *
        have HPJ := Lib.hid hpj
        clear hpj h0
        go_wp2_with fail
        have BB := Lib.hid bb
        clear bb
        go_loopw [5] (fun x wr => ∃ k : Nat, i < k ∧ k ≤ u ∧ x = .int .i64 (atM S k : Nat) ∧ Below w.heap.size w wr) (fun x _ => S.length - (intOf x).toNat)
        case atStart => exact ⟨i + 1, by omega, h2, rfl, BB.out⟩
        case round =>
          clear BB
          obtain ⟨k, hk1, hk2, rfl, bb⟩ := hrel
          by_cases hz : k < u
          · have hl := HLT.out (show k < k + 1 by omega) (by omega)
            have hs := HSL.out k hz
            have hs' : (atM S k : Int) < (S.length : Int) := by omega
            have HC1 := Lib.hid (HCL.out k (by omega) hz)
            have HN1 := Lib.hid (HNX.out k hz)
            generalize hp : atM S k = p2 at *
            generalize hq : atM S (k + 1) = q2 at *
            have HQ := Lib.hid hq
            clear hp hq
            go_wp2_with (first
              | (go_at_call 31; refine (HC1.out _).mono ?_; rintro e w4 ⟨rfl, b4⟩; replace b4 := bb.trans (b4.mono bb.size))
              | (go_at_call 38; refine (HN1.out _).mono ?_; rintro e w5 ⟨rfl, b5⟩; replace b5 := b4.trans (b5.mono b4.size)))
            go_roundw
            case rel => exact ⟨k + 1, by omega, by omega, by rw [HQ.out], b5⟩
            case measure => simp [intOf]; omega
          · obtain rfl : k = u := by omega
            clear hz
            rcases Nat.eq_or_lt_of_le hlast with h9 | h9
            · have hn := HN.out h9
              have hs' : ¬ (atM S k : Int) < (S.length : Int) := by omega
              generalize hp : atM S k = p2 at *
              have HP := Lib.hid hp
              clear hp
              go_wp2_with fail
              go_ret2
              exact ⟨rfl, bb⟩
            · have hn := HNL.out h9
              have hs' : (atM S k : Int) < (S.length : Int) := by omega
              obtain ⟨c', hc', HC1⟩ := HHI.out h9
              have HC1 := Lib.hid HC1
              generalize hp : atM S k = p2 at *
              have HP := Lib.hid hp
              clear hp
              go_wp2_with (go_at_call 31; refine (HC1.out _).mono ?_; rintro e w4 ⟨rfl, b4⟩; replace b4 := bb.trans (b4.mono bb.size))
              go_ret2
              exact ⟨rfl, b4⟩
      · obtain ⟨c', hc', HC1⟩ := HLO.out h0
        have hl := HLT.out (show j - 1 < j by omega) (by omega)
        have hp0 : (0 : Int) < (atM S j : Int) := by omega
        have hp1 : 0 < atM S j := by omega
        have HC1 := Lib.hid HC1
        have HP1 := Lib.hid (HPV.out j hj2)
        generalize hpj : atM S j = p at *
        have HPJ := Lib.hid hpj
        clear hpj
        generalize hq : atM S (j - 1) = q at *
        clear hq
        go_wp2_with (first
          | (go_at_call 31; refine (HC1.out _).mono ?_; rintro e w4 ⟨rfl, b4⟩; replace b4 := b3.trans (b4.mono b3.size))
          | (go_at_call 32; refine (HP1.out _).mono ?_; rintro e w3 ⟨rfl, b3⟩; replace b3 := bb.trans (b3.mono bb.size)))
        have BB := Lib.hid b4
        clear b3 b4 bb
        go_loopw [5] (fun x wr => ∃ k : Nat, i < k ∧ k ≤ u ∧ x = .int .i64 (atM S k : Nat) ∧ Below w.heap.size w wr) (fun x _ => S.length - (intOf x).toNat)
        case atStart => exact ⟨i + 1, by omega, h2, rfl, BB.out⟩
        case round =>
          clear BB
          obtain ⟨k, hk1, hk2, rfl, bb⟩ := hrel
          by_cases hz : k < u
          · have hl := HLT.out (show k < k + 1 by omega) (by omega)
            have hs := HSL.out k hz
            have hs' : (atM S k : Int) < (S.length : Int) := by omega
            have HC1 := Lib.hid (HCL.out k (by omega) hz)
            have HN1 := Lib.hid (HNX.out k hz)
            generalize hp : atM S k = p2 at *
            generalize hq : atM S (k + 1) = q2 at *
            have HQ := Lib.hid hq
            clear hp hq
            go_wp2_with (first
              | (go_at_call 31; refine (HC1.out _).mono ?_; rintro e w4 ⟨rfl, b4⟩; replace b4 := bb.trans (b4.mono bb.size))
              | (go_at_call 38; refine (HN1.out _).mono ?_; rintro e w5 ⟨rfl, b5⟩; replace b5 := b4.trans (b5.mono b4.size)))
            go_roundw
            case rel => exact ⟨k + 1, by omega, by omega, by rw [HQ.out], b5⟩
            case measure => simp [intOf]; omega
          · obtain rfl : k = u := by omega
            clear hz
            rcases Nat.eq_or_lt_of_le hlast with h9 | h9
            · have hn := HN.out h9
              have hs' : ¬ (atM S k : Int) < (S.length : Int) := by omega
              generalize hp : atM S k = p2 at *
              have HP := Lib.hid hp
              clear hp
              go_wp2_with fail
              go_ret2
              exact ⟨rfl, bb⟩
            · have hn := HNL.out h9
              have hs' : (atM S k : Int) < (S.length : Int) := by omega
              obtain ⟨c', hc', HC1⟩ := HHI.out h9
              have HC1 := Lib.hid HC1
              generalize hp : atM S k = p2 at *
              have HP := Lib.hid hp
              clear hp
              go_wp2_with (go_at_call 31; refine (HC1.out _).mono ?_; rintro e w4 ⟨rfl, b4⟩; replace b4 := bb.trans (b4.mono bb.size))
              go_ret2
              exact ⟨rfl, b4⟩
end Go.Proofs.Ytnkhlallnblfmaa

/-
  Contract of the landed package object: word.
-/
namespace Go.Proofs.Ytnkhlallnblfmaa
open Go.RowKit

/-- what the row about a sign is -/
theorem tile_word {S : List UInt8} {b : Nat → Nat} (HT : TileB (chars S) (chars S).length (rowsM S) b) {t i : Nat} (ht : t < (rowsM S).length) (h1 : b t ≤ i) (h2 : i < b (t + 1)) (around : Bool) :
    owordM (rowsM S) (atM S i) around = if around = true then wordR (atM S (b t), atM S (b (t + 1)), clsM (chars S) (b t)) (rowsM S)[t + 1]? (if 0 < t then (rowsM S)[t - 1]? else none) else (atM S (b t), atM S (b (t + 1))) := by
  have hn : b (t + 1) ≤ (chars S).length := by
    have := HT.mono (show t + 1 ≤ (rowsM S).length by omega) (Nat.le_refl _)
    rwa [HT.last] at this
  have hr : (rowsM S)[t] = (atM S (b t), atM S (b (t + 1)), clsM (chars S) (b t)) := by
    have := HT.row t ht
    rw [List.getElem?_eq_getElem ht] at this
    exact Option.some.inj this
  have hb : ∀ j (hj : j < t), ((rowsM S)[j]'(by omega)).2.1 ≤ atM S i := fun j hj => by
    have e := HT.row j (by omega)
    rw [List.getElem?_eq_getElem (by omega)] at e
    rw [Option.some.inj e]
    have h3 := HT.mono (show j + 1 ≤ t by omega) (by omega)
    exact width_take_mono (chars S) (by omega)
  have hx : atM S i < (rowsM S)[t].2.1 := by
    rw [hr]
    exact (atM_lt (by omega) hn).2 h2
  rw [owordM_is ht hb (.inr hx) around, hr]
set_option maxHeartbeats 4000000 in
theorem obWord_any (S : List UInt8) (hS : S.length ≤ 1000000) (i : Nat) (hi : i < (chars S).length) (around : Bool) (w : World) :
    Calls Try.prog 15 #[.string ⟨S.toArray⟩, .int .i64 (atM S i : Nat), .bool around] w (GivesPP w (owordM (rowsM S) (atM S i) around)) := by
  obtain ⟨b, HT⟩ : ∃ b, TileB (chars S) (chars S).length (rowsM S) b := tile_to (chars S) (chars S).length
  obtain ⟨t, ht, h1, h2⟩ := HT.at_ hi
  have hn : b (t + 1) ≤ (chars S).length := by
    have := HT.mono (show t + 1 ≤ (rowsM S).length by omega) (Nat.le_refl _)
    rwa [HT.last] at this
  have HR : Hid (∀ wz, Calls Try.prog 30 #[.string ⟨S.toArray⟩, .int .i64 (atM S i : Nat)] wz (GivesPP wz (atM S (b t), atM S (b (t + 1))))) := fun wz => obRow_any S hS HT ht h1 h2 wz
  obtain ⟨v, hv⟩ : ∃ v, owordM (rowsM S) (atM S i) around = v := ⟨_, rfl⟩
  rw [hv]
  rw [tile_word HT ht h1 h2 around] at hv
  have HC : Hid (∀ wz, Calls Try.prog 31 #[.string ⟨S.toArray⟩, .int .i64 (atM S i : Nat)] wz fun e w' => e = .returned (.int .i64 (clsM (chars S) (b t) : Nat)) ∧ Below wz.heap.size wz w') := fun wz => by
    have := obCls_any S hS i (by omega) wz
    rwa [HT.one t i ht h1 h2] at this
  /- the row behind -/
  have HB : Hid ((t + 1 < (rowsM S).length → ∃ t2 c2 : Nat, (rowsM S)[t + 1]? = some (atM S (b (t + 1)), t2, c2) ∧ atM S (b (t + 1)) < S.length ∧
      (∀ wz, Calls Try.prog 31 #[.string ⟨S.toArray⟩, .int .i64 (atM S (b (t + 1)) : Nat)] wz fun e w' => e = .returned (.int .i64 (c2 : Nat)) ∧ Below wz.heap.size wz w') ∧
      (∀ wz, Calls Try.prog 30 #[.string ⟨S.toArray⟩, .int .i64 (atM S (b (t + 1)) : Nat)] wz (GivesPP wz (atM S (b (t + 1)), t2)))) ∧
      (¬ t + 1 < (rowsM S).length → (rowsM S)[t + 1]? = none ∧ atM S (b (t + 1)) = S.length)) := by
    refine ⟨fun h => ?_, fun h => ⟨List.getElem?_eq_none (by omega), ?_⟩⟩
    · have h3 := HT.less (t + 1) h
      have h4 := HT.mono (show t + 1 + 1 ≤ (rowsM S).length by omega) (Nat.le_refl _)
      rw [HT.last] at h4
      refine ⟨_, _, HT.row (t + 1) h, ?_, fun wz => obCls_any S hS _ (by omega) wz, fun wz => obRow_any S hS HT h (Nat.le_refl _) h3 wz⟩
      rw [← obAt_last S]
      exact (atM_lt (by omega) (by omega)).2 (by omega)
    · rw [show t + 1 = (rowsM S).length by omega, HT.last, obAt_last]
  /- the row ahead -/
  have HA : Hid ((0 < t → ∃ p f2 c2 : Nat, (rowsM S)[t - 1]? = some (f2, atM S (b t), c2) ∧ 0 < atM S (b t) ∧
      (∀ wz, Calls Try.prog 32 #[.string ⟨S.toArray⟩, .int .i64 (atM S (b t) : Nat)] wz fun e w' => e = .returned (.int .i64 (p : Nat)) ∧ Below wz.heap.size wz w') ∧
      (∀ wz, Calls Try.prog 31 #[.string ⟨S.toArray⟩, .int .i64 (p : Nat)] wz fun e w' => e = .returned (.int .i64 (c2 : Nat)) ∧ Below wz.heap.size wz w') ∧
      (∀ wz, Calls Try.prog 30 #[.string ⟨S.toArray⟩, .int .i64 (p : Nat)] wz (GivesPP wz (f2, atM S (b t))))) ∧
      (¬ 0 < t → atM S (b t) = 0)) := by
    refine ⟨fun h => ?_, fun h => by rw [show t = 0 by omega, HT.zero, obAt_zero]⟩
    obtain ⟨u, rfl⟩ : ∃ u, t = u + 1 := ⟨t - 1, by omega⟩
    have h3 := HT.less u (by omega)
    refine ⟨atM S (b (u + 1) - 1), _, _, HT.row u (by omega), ?_, fun wz => obPrev_any S hS _ (by omega) wz, fun wz => ?_, fun wz => obRow_any S hS HT (t := u) (by omega) (by omega) (by omega) wz⟩
    · rw [← obAt_zero S]
      exact (atM_lt (by omega) (by omega)).2 (by omega)
    · have := obCls_any S hS (b (u + 1) - 1) (by omega) wz
      rwa [HT.one u (b (u + 1) - 1) (by omega) (by omega) (by omega)] at this
  have hp := obAt_le S i
  clear HT
  generalize clsM (chars S) (b t) = c at *
  generalize atM S (b t) = f at *
  generalize atM S (b (t + 1)) = u at *
  generalize atM S i = a at *
  have HV := Lib.hid hv
  clear hv hn h1 h2 hi hp
  cases around with
  | false =>
    have HE : Hid ((f, u) = v) := by have := HV.out; rwa [if_neg (by decide)] at this
    clear HV HA HB HC
    go_enter Try.func15, Try.ntmps15
    go_wp2_with (go_at_call 30; refine (HR.out _).mono ?_; rintro e w1 ⟨rfl, b1⟩)
    go_ret2
    exact ⟨by rw [← HE.out]; rfl, b1⟩
  | true =>
    have HE : Hid (wordR (f, u, c) (rowsM S)[t + 1]? (if 0 < t then (rowsM S)[t - 1]? else none) = v) := by have := HV.out; rwa [if_pos rfl] at this
    clear HV
    by_cases hc : c = 0
    · subst hc
      clear HA
      by_cases hb : t + 1 < (rowsM S).length
      · obtain ⟨t2, c2, hr, hlt, hcl, hrw⟩ := HB.out.1 hb
        rw [hr] at HE
        have hlt' : (u : Int) < (S.length : Int) := by omega
        have HC2 := Lib.hid hcl
        have HR2 := Lib.hid hrw
        clear hcl hrw hr HB hb ht
        by_cases h3 : c2 = 3
        · subst h3
          have HF : Hid ((f, u) = v) := by have := HE.out; show _ = _; simpa [wordR] using this
          clear HE
          go_enter Try.func15, Try.ntmps15
          go_wp2_with (first
            | (go_at_call 31; refine use_factM b2 ?_; intro _; refine (HC2.out _).mono ?_; rintro e w3 ⟨rfl, b3⟩; replace b3 := b2.trans (b3.mono b2.size))
            | (go_at_call 31; refine (HC.out _).mono ?_; rintro e w2 ⟨rfl, b2⟩; replace b2 := b1.trans (b2.mono b1.size))
            | (go_at_call 30; refine (HR.out _).mono ?_; rintro e w1 ⟨rfl, b1⟩))
          go_ret2
          exact ⟨by rw [← HF.out]; rfl, b3⟩
        · have e3 : ((c2 : Int) != 3) = true := by rw [bne_iff_ne]; omega
          have HF : Hid ((f, t2) = v) := by have := HE.out; show _ = _; simpa [wordR, h3] using this
          clear HE h3
          go_enter Try.func15, Try.ntmps15
          go_wp2_with (first
            | (go_at_call 31; refine use_factM b2 ?_; intro _; refine (HC2.out _).mono ?_; rintro e w3 ⟨rfl, b3⟩; replace b3 := b2.trans (b3.mono b2.size))
            | (go_at_call 31; refine (HC.out _).mono ?_; rintro e w2 ⟨rfl, b2⟩; replace b2 := b1.trans (b2.mono b1.size))
            | (go_at_call 30; refine use_factM b3 ?_; intro _; refine (HR2.out _).mono ?_; rintro e w4 ⟨rfl, b4⟩; replace b4 := b3.trans (b4.mono b3.size))
            | (go_at_call 30; refine (HR.out _).mono ?_; rintro e w1 ⟨rfl, b1⟩))
          go_ret2
          exact ⟨by rw [← HF.out]; rfl, b4⟩
      · obtain ⟨hr, hu⟩ := HB.out.2 hb
        rw [hr] at HE
        subst hu
        clear HB hb ht hr
        have HF : Hid ((f, S.length) = v) := by have := HE.out; show _ = _; simpa [wordR] using this
        clear HE
        have hlt' : ¬ (S.length : Int) < (S.length : Int) := by omega
        go_enter Try.func15, Try.ntmps15
        go_wp2_with (first
          | (go_at_call 31; refine (HC.out _).mono ?_; rintro e w2 ⟨rfl, b2⟩; replace b2 := b1.trans (b2.mono b1.size))
          | (go_at_call 30; refine (HR.out _).mono ?_; rintro e w1 ⟨rfl, b1⟩))
        go_ret2
        exact ⟨by rw [← HF.out]; rfl, b2⟩
    · have ec : ((c : Int) == 0) = false := by rw [beq_eq_false_iff_ne]; omega
      by_cases hb : t + 1 < (rowsM S).length
      · obtain ⟨t2, c2, hr, hlt, hcl, hrw⟩ := HB.out.1 hb
        rw [hr] at HE
        have hlt' : (u : Int) < (S.length : Int) := by omega
        have HC2 := Lib.hid hcl
        have HR2 := Lib.hid hrw
        clear hcl hrw hr HB hb ht
        by_cases HS : c2 = 0
        · subst HS
          clear HA
          have HS : True := trivial
          have HF : Hid ((f, t2) = v) := by have := HE.out; show _ = _; simpa [wordR, hc, HS] using this
          clear HE hc HS
          go_enter Try.func15, Try.ntmps15
          go_wp2_with (first
            | (go_at_call 31; refine use_factM b2 ?_; intro _; refine (HC2.out _).mono ?_; rintro e w3 ⟨rfl, b3⟩; replace b3 := b2.trans (b3.mono b2.size))
            | (go_at_call 30; refine use_factM b3 ?_; intro _; refine (HR2.out _).mono ?_; rintro e w4 ⟨rfl, b4⟩; replace b4 := b3.trans (b4.mono b3.size))
            | (go_at_call 31; refine (HC.out _).mono ?_; rintro e w2 ⟨rfl, b2⟩; replace b2 := b1.trans (b2.mono b1.size))
            | (go_at_call 30; refine (HR.out _).mono ?_; rintro e w1 ⟨rfl, b1⟩))
          go_ret2
          exact ⟨by rw [← HF.out]; rfl, b4⟩
        · have e3 : ((c2 : Int) == 0) = false := by rw [beq_eq_false_iff_ne]; omega
          by_cases ha : 0 < t
          · obtain ⟨p, f2, c3, hr3, hf0, hp3, hc3, hr4⟩ := HA.out.1 ha
            rw [if_pos ha, hr3] at HE
            have hf1 : (0 : Int) < (f : Int) := by omega
            have HP3 := Lib.hid hp3
            have HC3 := Lib.hid hc3
            have HR3 := Lib.hid hr4
            clear HA ha hr3 hp3 hc3 hr4
            by_cases h4 : c3 = 0
            · subst h4
              have HS2 : True := trivial
              have HF : Hid ((f2, u) = v) := by have := HE.out; show _ = _; simpa [wordR, hc, HS] using this
              clear HE hc HS
              go_enter Try.func15, Try.ntmps15
              go_wp2_with (first
                | (go_at_call 31; refine use_factM b5 ?_; intro _; refine (HC3.out _).mono ?_; rintro e w6 ⟨rfl, b6⟩; replace b6 := b5.trans (b6.mono b5.size))
                | (go_at_call 31; refine use_factM b2 ?_; intro _; refine (HC2.out _).mono ?_; rintro e w3 ⟨rfl, b3⟩; replace b3 := b2.trans (b3.mono b2.size))
                | (go_at_call 32; refine use_factM b6 ?_; intro _; refine (HP3.out _).mono ?_; rintro e w7 ⟨rfl, b7⟩; replace b7 := b6.trans (b7.mono b6.size))
                | (go_at_call 30; refine use_factM b7 ?_; intro _; refine (HR3.out _).mono ?_; rintro e w8 ⟨rfl, b8⟩; replace b8 := b7.trans (b8.mono b7.size))
                | (go_at_call 32; refine (HP3.out _).mono ?_; rintro e w5 ⟨rfl, b5⟩; replace b5 := b3.trans (b5.mono b3.size))
                | (go_at_call 31; refine (HC.out _).mono ?_; rintro e w2 ⟨rfl, b2⟩; replace b2 := b1.trans (b2.mono b1.size))
                | (go_at_call 30; refine (HR.out _).mono ?_; rintro e w1 ⟨rfl, b1⟩))
              go_ret2
              exact ⟨by rw [← HF.out]; rfl, b8⟩
            · have e4 : ((c3 : Int) == 0) = false := by rw [beq_eq_false_iff_ne]; omega
              have HF : Hid ((f, u) = v) := by have := HE.out; show _ = _; simpa [wordR, hc, HS, h4] using this
              clear HE hc HS h4
              go_enter Try.func15, Try.ntmps15
              go_wp2_with (first
                | (go_at_call 31; refine use_factM b5 ?_; intro _; refine (HC3.out _).mono ?_; rintro e w6 ⟨rfl, b6⟩; replace b6 := b5.trans (b6.mono b5.size))
                | (go_at_call 31; refine use_factM b2 ?_; intro _; refine (HC2.out _).mono ?_; rintro e w3 ⟨rfl, b3⟩; replace b3 := b2.trans (b3.mono b2.size))
                | (go_at_call 32; refine (HP3.out _).mono ?_; rintro e w5 ⟨rfl, b5⟩; replace b5 := b3.trans (b5.mono b3.size))
                | (go_at_call 31; refine (HC.out _).mono ?_; rintro e w2 ⟨rfl, b2⟩; replace b2 := b1.trans (b2.mono b1.size))
                | (go_at_call 30; refine (HR.out _).mono ?_; rintro e w1 ⟨rfl, b1⟩))
              go_ret2
              exact ⟨by rw [← HF.out]; rfl, b6⟩
          · have hf0 := HA.out.2 ha
            rw [if_neg ha] at HE
            subst hf0
            have hz : ¬ (0 : Int) < ((0 : Nat) : Int) := by omega
            clear HA ha
            have HF : Hid ((0, u) = v) := by have := HE.out; show _ = _; simpa [wordR, hc, HS] using this
            clear HE hc HS
            go_enter Try.func15, Try.ntmps15
            go_wp2_with (first
              | (go_at_call 31; refine use_factM b2 ?_; intro _; refine (HC2.out _).mono ?_; rintro e w3 ⟨rfl, b3⟩; replace b3 := b2.trans (b3.mono b2.size))
              | (go_at_call 31; refine (HC.out _).mono ?_; rintro e w2 ⟨rfl, b2⟩; replace b2 := b1.trans (b2.mono b1.size))
              | (go_at_call 30; refine (HR.out _).mono ?_; rintro e w1 ⟨rfl, b1⟩))
            go_ret2
            exact ⟨by rw [← HF.out]; rfl, b3⟩
      · obtain ⟨hr, hu⟩ := HB.out.2 hb
        rw [hr] at HE
        subst hu
        clear HB hb ht hr
        have HS : True := trivial
        have hlt' : ¬ (S.length : Int) < (S.length : Int) := by omega
        by_cases ha : 0 < t
        · obtain ⟨p, f2, c3, hr3, hf0, hp3, hc3, hr4⟩ := HA.out.1 ha
          rw [if_pos ha, hr3] at HE
          have hf1 : (0 : Int) < (f : Int) := by omega
          have HP3 := Lib.hid hp3
          have HC3 := Lib.hid hc3
          have HR3 := Lib.hid hr4
          clear HA ha hr3 hp3 hc3 hr4
          by_cases h4 : c3 = 0
          · subst h4
            have HS2 : True := trivial
            have HF : Hid ((f2, S.length) = v) := by have := HE.out; show _ = _; simpa [wordR, hc, HS] using this
            clear HE hc HS
            go_enter Try.func15, Try.ntmps15
            go_wp2_with (first
              | (go_at_call 31; refine use_factM b5 ?_; intro _; refine (HC3.out _).mono ?_; rintro e w6 ⟨rfl, b6⟩; replace b6 := b5.trans (b6.mono b5.size))
              | (go_at_call 32; refine use_factM b6 ?_; intro _; refine (HP3.out _).mono ?_; rintro e w7 ⟨rfl, b7⟩; replace b7 := b6.trans (b7.mono b6.size))
              | (go_at_call 30; refine use_factM b7 ?_; intro _; refine (HR3.out _).mono ?_; rintro e w8 ⟨rfl, b8⟩; replace b8 := b7.trans (b8.mono b7.size))
              | (go_at_call 32; refine (HP3.out _).mono ?_; rintro e w5 ⟨rfl, b5⟩; replace b5 := b2.trans (b5.mono b2.size))
              | (go_at_call 31; refine (HC.out _).mono ?_; rintro e w2 ⟨rfl, b2⟩; replace b2 := b1.trans (b2.mono b1.size))
              | (go_at_call 30; refine (HR.out _).mono ?_; rintro e w1 ⟨rfl, b1⟩))
            go_ret2
            exact ⟨by rw [← HF.out]; rfl, b8⟩
          · have e4 : ((c3 : Int) == 0) = false := by rw [beq_eq_false_iff_ne]; omega
            have HF : Hid ((f, S.length) = v) := by have := HE.out; show _ = _; simpa [wordR, hc, HS, h4] using this
            clear HE hc HS h4
            go_enter Try.func15, Try.ntmps15
            go_wp2_with (first
              | (go_at_call 31; refine use_factM b5 ?_; intro _; refine (HC3.out _).mono ?_; rintro e w6 ⟨rfl, b6⟩; replace b6 := b5.trans (b6.mono b5.size))
              | (go_at_call 32; refine (HP3.out _).mono ?_; rintro e w5 ⟨rfl, b5⟩; replace b5 := b2.trans (b5.mono b2.size))
              | (go_at_call 31; refine (HC.out _).mono ?_; rintro e w2 ⟨rfl, b2⟩; replace b2 := b1.trans (b2.mono b1.size))
              | (go_at_call 30; refine (HR.out _).mono ?_; rintro e w1 ⟨rfl, b1⟩))
            go_ret2
            exact ⟨by rw [← HF.out]; rfl, b6⟩
        · have hf0 := HA.out.2 ha
          rw [if_neg ha] at HE
          subst hf0
          have hz : ¬ (0 : Int) < ((0 : Nat) : Int) := by omega
          clear HA ha
          have HF : Hid ((0, S.length) = v) := by have := HE.out; show _ = _; simpa [wordR, hc, HS] using this
          clear HE hc HS
          go_enter Try.func15, Try.ntmps15
          go_wp2_with (first
            | (go_at_call 31; refine (HC.out _).mono ?_; rintro e w2 ⟨rfl, b2⟩; replace b2 := b1.trans (b2.mono b1.size))
            | (go_at_call 30; refine (HR.out _).mono ?_; rintro e w1 ⟨rfl, b1⟩))
          go_ret2
          exact ⟨by rw [← HF.out]; rfl, b2⟩
end Go.Proofs.Ytnkhlallnblfmaa

/-
  Contracts of the landed package object: brackets, quotes, pair.
-/
namespace Go.Proofs.Ytnkhlallnblfmaa
open Go.RowKit

def twoO (r : Option RwO) : Option (Nat × Nat) := r.map fun x => (x.1, x.2.1)
set_option maxHeartbeats 4000000 in
theorem obBrackets_any (S : List UInt8) (hS : S.length ≤ 1000000) (a : Nat) (_ha : a ≤ S.length) (o s : UInt8) (w : World) :
    Calls Try.prog 33 #[.string ⟨S.toArray⟩, .int .i64 (a : Nat), .int .u8 (o.toNat : Nat), .int .u8 (s.toNat : Nat)] w (GivesIIB w (twoO (aboutM (bracketsM S o s) a))) := by
  go_enter Try.func33, Try.ntmps33
  go_wp2_with fail
  go_loopw [8, 11, 15] (fun v p i wr => ∃ (k : Nat) (L : List RwO) (P : List Nat) (A2 : Option Addr) (c2 : Nat) (y : Nat), k ≤ S.length ∧ i = .int .i64 k ∧ v = .int .i64 (y : Nat) ∧ p = .slice A2 P.length c2 ∧ P.length ≤ k ∧ (∀ x ∈ P, x < k) ∧ Hid (brTo S o s k = (L, P)) ∧ Hid (aboutM L a = none) ∧
      Hid (wr.ownsRow w.heap.size 3 1 (.slice A2 P.length c2) P.length (P.map intn)) ∧ Below w.heap.size w wr) (fun _ _ i _ => S.length - (intOf i).toNat)
  case atStart => exact ⟨0, [], [], none, 0, 0, Nat.zero_le _, rfl, rfl, rfl, Nat.le_refl _, fun x hx => by simp at hx, rfl, rfl, World.ownsRow_nil _ _ _ _, Below.refl _ _⟩
  case round =>
    obtain ⟨k, L, P, A2, c2, y, hk, rfl, rfl, rfl, hpk, hpx, HST, HNO, OP, hb⟩ := hrel
    have zr := hb.size
    by_cases hlt : k < S.length
    · have hlt' : (k : Int) < (S.length : Int) := by omega
      have hk0 : (0 : Int) ≤ (k : Int) := by omega
      have hby := byte_at S k hlt
      have HNX : Hid (brTo S o s (k + 1) = brStep o s S[k] k (L, P)) := by
        show brStep o s (S.getD k 0) k (brTo S o s k) = _
        rw [HST.out, List.getD_eq_getElem?_getD, List.getElem?_eq_getElem hlt]
        rfl
      have HPX := Lib.hid hpx
      clear hpx
      generalize S[k] = b at *
      by_cases ho : b = o
      · have e1 : ((b.toNat : Int) == (o.toNat : Int)) = true := by rw [ho]; simp
        rw [brStep_open ho] at HNX
        clear ho
        go_wp2_with (at_builtin; refine wpList_pushN rfl _ _ _ rfl w.heap.size 3 _ 1 8 elt_int 3 (.slice A2 P.length c2) P.length _ rfl OP.out [.int .i64 (k : Nat)] _ rfl rfl rfl (by simp [Value.oneCell']) (by unfold maxLen; omega) (by omega) (by omega) ?_; intro v5 w5 own5 b5 far5; obtain ⟨A5, c5, rfl⟩ := own_form own5)
        go_roundw
        case rel => exact ⟨k + 1, L, P ++ [k], A5, c5, y, by omega, by go_num, rfl, by simp, by simp; omega, fun x hx => (by rcases List.mem_append.1 hx with hx | hx; have := HPX.out x hx; omega; rw [List.mem_singleton.1 hx]; omega), HNX, HNO, by show World.ownsRow _ _ _ _ _ _ _; rw [List.length_append, List.map_append]; exact own5, hb.trans b5⟩
        case measure => simp [intOf]; omega
      · have e1 : ((b.toNat : Int) == (o.toNat : Int)) = false := by
          rw [beq_eq_false_iff_ne]
          intro e
          exact ho (UInt8.toNat_inj.1 (by omega))
        by_cases hs : b = s
        · have e2 : ((b.toNat : Int) == (s.toNat : Int)) = true := by rw [hs]; simp
          rcases List.eq_nil_or_concat P with rfl | ⟨Q, x, hPQ⟩
          · rw [brStep_none ho] at HNX
            clear ho hs
            go_wp2_with fail
            go_roundw
            case rel => exact ⟨k + 1, L, [], A2, c2, y, by omega, by go_num, rfl, rfl, by simp, fun x hx => (by simp at hx), HNX, HNO, OP, hb⟩
            case measure => simp [intOf]; omega
          · rw [List.concat_eq_append] at hPQ
            subst hPQ
            rw [brStep_shut ho hs] at HNX
            clear ho hs
            have hlq : (Q ++ [x]).length = Q.length + 1 := by simp
            have hx := HPX.out x (by simp)
            rw [hlq] at OP hpk
            obtain ⟨g, c1, hv, hg1, hg2⟩ := obj_own OP.out (by omega)
            injection hv with hA _ hc
            subst hA hc
            have vq : wr.cell? ⟨g, Q.length, none⟩ = some (.int .i64 (x : Nat)) := by
              have := (OP.out.cells (g := g) rfl) Q.length (.int .i64 (x : Nat)) (by simp [intn])
              rwa [obj_base] at this
            have OQ := Lib.hid (obj_less (x := intn x) (by rw [List.map_append] at OP; exact OP.out))
            have hcap : Q.length + 1 ≤ c2 := obj_cap OP.out
            have hcap' : (Q.length : Int) ≤ (c2 : Int) := by omega
            have hq0 : (0 : Int) ≤ (Q.length : Int) := by omega
            by_cases h1 : x ≤ a
            · have h1' : (x : Int) ≤ (a : Int) := by omega
              by_cases h2 : a ≤ k
              · have h2' : (a : Int) ≤ (k : Int) := by omega
                have HE : Hid (aboutM (bracketsM S o s) a = some (x, k, 0)) := about_first hlt HST.out HNX.out HNO.out h1 h2
                go_wp2_with fail
                go_ret3
                exact ⟨by rw [HE.out]; rfl, hb⟩
              · have h2' : ¬ (a : Int) ≤ (k : Int) := by omega
                have HN2 : Hid (aboutM (L ++ [(x, k, 0)]) a = none) := about_miss HNO.out (by omega)
                go_wp2_with fail
                go_roundw
                case rel => exact ⟨k + 1, L ++ [(x, k, 0)], Q, some ⟨g, 0, none⟩, c2, x, by omega, by go_num, rfl, rfl, by omega, fun y hy => (by have := HPX.out y (by simp [hy]); omega), HNX, HN2, OQ, hb⟩
                case measure => simp [intOf]; omega
            · have h1' : ¬ (x : Int) ≤ (a : Int) := by omega
              have HN2 : Hid (aboutM (L ++ [(x, k, 0)]) a = none) := about_miss HNO.out (by omega)
              go_wp2_with fail
              go_roundw
              case rel => exact ⟨k + 1, L ++ [(x, k, 0)], Q, some ⟨g, 0, none⟩, c2, x, by omega, by go_num, rfl, rfl, by omega, fun y hy => (by have := HPX.out y (by simp [hy]); omega), HNX, HN2, OQ, hb⟩
              case measure => simp [intOf]; omega
        · have e2 : ((b.toNat : Int) == (s.toNat : Int)) = false := by
            rw [beq_eq_false_iff_ne]
            intro e
            exact hs (UInt8.toNat_inj.1 (by omega))
          rw [brStep_else ho hs] at HNX
          clear ho hs
          go_wp2_with fail
          go_roundw
          case rel => exact ⟨k + 1, L, P, A2, c2, y, by omega, by go_num, rfl, rfl, by omega, fun x hx => (by have := HPX.out x hx; omega), HNX, HNO, OP, hb⟩
          case measure => simp [intOf]; omega
    · obtain rfl : k = S.length := by omega
      have HE : Hid (aboutM (bracketsM S o s) a = none) := by
        show _ = none
        unfold bracketsM
        rw [HST.out]
        exact HNO.out
      have hlt' : ¬ (S.length : Int) < (S.length : Int) := by omega
      go_wp2_with fail
      go_ret3
      exact ⟨by rw [HE.out]; rfl, hb⟩
set_option maxHeartbeats 4000000 in
theorem obQuotes_any (S : List UInt8) (hS : S.length ≤ 1000000) (a : Nat) (q : UInt8) (w : World) :
    Calls Try.prog 34 #[.string ⟨S.toArray⟩, .int .i64 (a : Nat), .int .u8 (q.toNat : Nat)] w (GivesIIB w (twoO (quoteAt (quotesM S (ofL S (a : Nat) : Nat) q) a))) := by
  obtain ⟨n, hn⟩ : ∃ n, ofL S (a : Nat) = n := ⟨_, rfl⟩
  rw [hn]
  have HOF := Lib.hid hn
  clear hn
  obtain ⟨hft, htl⟩ := bounds_le S (n : Nat)
  obtain ⟨r, hr⟩ : ∃ r, quoteAt (quotesM S (n : Nat) q) a = r := ⟨_, rfl⟩
  rw [hr]
  unfold quotesM at hr
  obtain ⟨bd, hbd⟩ : ∃ x, boundsL S (n : Nat) = x := ⟨_, rfl⟩
  obtain ⟨⟨f, t⟩, er⟩ := bd
  rw [hbd] at hft htl hr
  have hft' : f ≤ t := hft
  have htl' : t ≤ S.length := htl
  have HBD := Lib.hid hbd
  have HQ : Hid (quoteAt (quTo S q f (t - f)).1 a = r) := hr
  clear hft htl hbd hr
  go_enter Try.func34, Try.ntmps34
  go_wp2_with (first
    | (go_at_call 42; refine (linOf_any S hS (a : Nat) _).mono ?_; rw [HOF.out]; rintro e w1 ⟨rfl, b1⟩)
    | (go_at_call 41; refine (linBounds_any S hS (n : Nat) _).mono ?_; rw [HBD.out]; rintro e w2 ⟨rfl, b2⟩; replace b2 := b1.trans (b2.mono b1.size)))
  clear b1
  go_loopw [6, 12, 13] (fun v p i wr => ∃ (j : Nat) (L : List RwO) (P : Option Nat) (y : Nat), f + j ≤ t ∧ i = .int .i64 ((f + j : Nat) : Int) ∧ v = .int .i64 (y : Nat) ∧ p = .bool P.isSome ∧ Hid (∀ x, P = some x → x = y ∧ x ≤ f + j) ∧ Hid (quTo S q f j = (L, P)) ∧ Hid (AheadQ a L) ∧ wr = w2) (fun _ _ i _ => t - (intOf i).toNat)
  case atStart => exact ⟨0, [], none, 0, hft', rfl, rfl, rfl, fun x hx => (by cases hx), rfl, fun x hx => (by simp at hx), rfl⟩
  case round =>
    obtain ⟨j, L, P, y, hj, rfl, rfl, rfl, HPX, HST, HAH, rfl⟩ := hrel
    obtain ⟨k, hk⟩ : ∃ k, f + j = k := ⟨_, rfl⟩
    rw [hk] at hj HPX ⊢
    by_cases hlt : k < t
    · have hlt' : (k : Int) < (t : Int) := by omega
      have hk0 : (0 : Int) ≤ (k : Int) := by omega
      have hkS : k < S.length := by omega
      have hkS' : (k : Int) < (S.length : Int) := by omega
      have hby := byte_at S k hkS
      have HNX : Hid (quTo S q f (j + 1) = quStep q S[k] k (L, P)) := by
        show quStep q (S.getD (f + j) 0) (f + j) (quTo S q f j) = _
        rw [HST.out, hk, List.getD_eq_getElem?_getD, List.getElem?_eq_getElem hkS]
        rfl
      have hj1 : f + (j + 1) = k + 1 := by omega
      have HJ1 := Lib.hid hj1
      have HK := Lib.hid hk
      clear hj1 hk
      generalize S[k] = b at *
      by_cases hq : b = q
      · have e1 : ((b.toNat : Int) != (q.toNat : Int)) = false := by rw [hq]; simp
        rcases P with _ | x
        · have hst : quStep q b k (L, none) = (L, some k) := if_pos hq
          rw [hst] at HNX
          clear hst hq
          rw [show (none : Option Nat).isSome = false from rfl]
          go_wp2_with fail
          go_roundw
          case rel => exact ⟨j + 1, L, some k, k, by have := HJ1.out; omega, by rw [HJ1.out]; go_num, rfl, rfl, fun x hx => (by have := HJ1.out; injection hx with hx; omega), HNX, HAH, trivial⟩
          case measure => simp [intOf]; omega
        · have hst : quStep q b k (L, some x) = (L ++ [(x, k, 0)], none) := if_pos hq
          rw [hst] at HNX
          clear hst hq
          obtain ⟨rfl, hx⟩ := HPX.out x rfl
          rw [show (some x : Option Nat).isSome = true from rfl]
          by_cases h2 : a ≤ k
          · have h2' : (a : Int) ≤ (k : Int) := by omega
            have HE : Hid (some (x, k, 0) = r) := by
              show _ = r
              obtain ⟨N, h3, h4, _⟩ := qu_rest HNX.out (t - f - (j + 1))
              have hk := HK.out
              rw [show j + 1 + (t - f - (j + 1)) = t - f by omega] at h3
              rw [← HQ.out, h3]
              exact (quote_first HAH.out (x := (x, k, 0)) hx h2 fun z hz => by have := h4 z hz; show k < z.1; omega).symm
            go_wp2_with fail
            go_ret3
            exact ⟨by rw [← HE.out]; rfl, b2⟩
          · have h2' : ¬ (a : Int) ≤ (k : Int) := by omega
            have HA2 : Hid (AheadQ a (L ++ [(x, k, 0)])) := fun z hz => by
              rcases List.mem_append.1 hz with hz | hz
              · exact HAH.out z hz
              · rw [List.mem_singleton.1 hz]; exact ⟨hx, show k < a by omega⟩
            go_wp2_with fail
            go_roundw
            case rel => exact ⟨j + 1, L ++ [(x, k, 0)], none, k, by have := HJ1.out; omega, by rw [HJ1.out]; go_num, rfl, rfl, fun x hx => (by cases hx), HNX, HA2, trivial⟩
            case measure => simp [intOf]; omega
      · have e1 : ((b.toNat : Int) != (q.toNat : Int)) = true := by
          rw [bne_iff_ne]
          intro e
          exact hq (UInt8.toNat_inj.1 (by omega))
        have hst : quStep q b k (L, P) = (L, P) := if_neg hq
        rw [hst] at HNX
        clear hst hq
        obtain ⟨oi, hoi⟩ : ∃ x, P.isSome = x := ⟨_, rfl⟩
        rw [hoi]
        have HOI := Lib.hid hoi
        clear hoi
        go_wp2_with fail
        go_roundw
        case rel => exact ⟨j + 1, L, P, y, by have := HJ1.out; omega, by rw [HJ1.out]; go_num, rfl, by rw [HOI.out], fun x hx => (by have := HPX.out x hx; have := HJ1.out; omega), HNX, HAH, trivial⟩
        case measure => simp [intOf]; omega
    · have hke : k = t := by omega
      have HE : Hid (none = r) := by
        show none = r
        rw [← HQ.out, show t - f = j by omega, HST.out]
        exact (quote_ahead HAH.out).symm
      have hlt' : ¬ (k : Int) < (t : Int) := by omega
      go_wp2_with fail
      go_ret3
      exact ⟨by rw [← HE.out]; rfl, b2⟩
end Go.Proofs.Ytnkhlallnblfmaa

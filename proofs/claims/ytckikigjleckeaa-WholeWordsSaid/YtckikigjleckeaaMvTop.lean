/-
  w goes to each word's beginning, and b back: layer 12, through the layers.
-/
import Derived.Test.YtckikigjleckeaaMvSays
import Derived.Test.YtckikigjleckeaaM12p
import Derived.Test.YtckikigjleckeaaGlyFirst
import Derived.Test.YtckikigjleckeaaGlyProof
import Derived.Test.YtckikigjleckeaaLinGly
namespace Go.Proofs.Ytckikigjleckeaa
open Go.RowKit

theorem glyAtM (S : List UInt8) (hs : S.length ≤ 1000000) (j : Nat) (hj : j ≤ (chars S).length) (w : World) : Calls Try.prog 35 #[.string ⟨S.toArray⟩, .int .i64 (atM S j : Nat)] w fun e w' => e = .returned (.tuple #[.int .i32 (((chars S).getD j (0, 0)).1 : Nat), .int .i64 (((chars S).getD j (0, 0)).2 : Nat)]) ∧ Below w.heap.size w w' :=
  (glyAt_any S (atM S j : Nat) w hs).mono fun e w' ⟨i, he, hi, hb⟩ => ⟨by rw [he, hi.unique (which_self hj)], hb⟩
theorem glyPrevM (S : List UInt8) (hs : S.length ≤ 1000000) (j : Nat) (hj : j ≤ (chars S).length) (w : World) : Calls Try.prog 37 #[.string ⟨S.toArray⟩, .int .i64 (atM S j : Nat)] w fun e w' => e = .returned (.int .i64 (atM S (j - 1) : Nat)) ∧ Below w.heap.size w w' :=
  (glyPrev_any S (atM S j : Nat) w hs).mono fun e w' ⟨i, he, hi, hb⟩ => ⟨by rw [he, hi.unique (which_self hj)]; rfl, hb⟩
theorem sign_bounds (S : List UInt8) {i : Nat} (h : i < (chars S).length) : 1 ≤ ((chars S).getD i (0, 0)).2 ∧ ((chars S).getD i (0, 0)).1 ≤ 1114111 := by
  rw [List.getD_eq_getElem?_getD, List.getElem?_eq_getElem h]
  have := chars_bound S _ (List.getElem_mem h)
  exact ⟨this.2.1, this.1⟩
set_option maxHeartbeats 2000000 in
theorem topWords_any (S : List UInt8) (hS : S.length ≤ 1000000) (i : Nat) (hi0 : 0 < i) (hi : i < (chars S).length) (w : World) :
    Calls Try.prog 18 #[.string ⟨S.toArray⟩, .int .i64 (atM S i : Nat)] w fun e w' => e = .returned (.bool (begQ (chars S) i)) ∧ Below w.heap.size w w' := by
  have hp := (atM_lt (S := S) (i := 0) (j := i) (by omega) (by omega)).2 hi0
  have hcl := chars_len S
  have hab : atM S i ≤ S.length := by
    have := width_le_take (chars S) i
    rwa [width_chars] at this
  obtain ⟨x1, x2⟩ := sign_bounds S hi
  obtain ⟨_, y2⟩ := sign_bounds S (i := i - 1) (by omega)
  have HAT : Hid (∀ wz, Calls Try.prog 35 #[.string ⟨S.toArray⟩, .int .i64 (atM S i : Nat)] wz fun e w' => e = .returned (.tuple #[.int .i32 (((chars S).getD i (0, 0)).1 : Nat), .int .i64 (((chars S).getD i (0, 0)).2 : Nat)]) ∧ Below wz.heap.size wz w') := fun wz => glyAtM S hS i (by omega) wz
  have HAP : Hid (∀ wz, Calls Try.prog 35 #[.string ⟨S.toArray⟩, .int .i64 (atM S (i - 1) : Nat)] wz fun e w' => e = .returned (.tuple #[.int .i32 (((chars S).getD (i - 1) (0, 0)).1 : Nat), .int .i64 (((chars S).getD (i - 1) (0, 0)).2 : Nat)]) ∧ Below wz.heap.size wz w') := fun wz => glyAtM S hS (i - 1) (by omega) wz
  have HPR : Hid (∀ wz, Calls Try.prog 37 #[.string ⟨S.toArray⟩, .int .i64 (atM S i : Nat)] wz fun e w' => e = .returned (.int .i64 (atM S (i - 1) : Nat)) ∧ Below wz.heap.size wz w') := fun wz => glyPrevM S hS i (by omega) wz
  have HQ : Hid (begQ (chars S) i = ((decide (classL ((chars S).getD i (0, 0)).1 = 1) || decide (classL ((chars S).getD i (0, 0)).1 = 2)) && decide (classL ((chars S).getD (i - 1) (0, 0)).1 ≠ classL ((chars S).getD i (0, 0)).1))) := by
    show _ = _
    unfold begQ wordM clsM
    rw [decide_eq_false (show ¬ i = 0 by omega), Bool.false_or]
  have HC1 : Hid (∀ wz, Calls Try.prog 36 #[.int .i32 (((chars S).getD i (0, 0)).1 : Nat)] wz fun e w' => e = .returned (.int .i64 (classL ((chars S).getD i (0, 0)).1 : Nat)) ∧ Below wz.heap.size wz w') := fun wz => (glyClass_any _ x2 wz).mono fun e w' h => by
    obtain ⟨rfl, rfl⟩ := h
    exact ⟨rfl, Below.refl _ _⟩
  have HC2 : Hid (∀ wz, Calls Try.prog 36 #[.int .i32 (((chars S).getD (i - 1) (0, 0)).1 : Nat)] wz fun e w' => e = .returned (.int .i64 (classL ((chars S).getD (i - 1) (0, 0)).1 : Nat)) ∧ Below wz.heap.size wz w') := fun wz => (glyClass_any _ y2 wz).mono fun e w' h => by
    obtain ⟨rfl, rfl⟩ := h
    exact ⟨rfl, Below.refl _ _⟩
  generalize atM S (i - 1) = ap at *
  generalize atM S i = ai at *
  generalize (chars S).getD (i - 1) (0, 0) = y at *
  generalize (chars S).getD i (0, 0) = x at *
  generalize begQ (chars S) i = res at *
  rw [show atM S 0 = 0 by simp [atM, width]] at hp
  have e0 : ((ai : Int) == 0) = false := by rw [beq_eq_false_iff_ne]; omega
  have ew : ((x.2 : Int) == 0) = false := by rw [beq_eq_false_iff_ne]; omega
  generalize classL x.1 = cx at *
  generalize classL y.1 = cy at *
  by_cases hc : cx = 1 ∨ cx = 2
  · have HF : Hid (res = decide (cy ≠ cx)) := by
      show res = _
      rw [HQ.out]
      rcases hc with rfl | rfl <;> simp
    have hne : ((cy : Int) != (cx : Int)) = decide (cy ≠ cx) := by
      rw [Bool.eq_iff_iff, bne_iff_ne, decide_eq_true_iff]; omega
    have HNE := Lib.hid hne
    clear hne HQ
    rcases hc with rfl | rfl
    · go_enter Try.func18, Try.ntmps18
      go_wp2_with (first
        | (go_at_call 35; refine use_factM b3 ?_; intro _; refine (HAP.out _).mono ?_; rintro e w4 ⟨rfl, b4⟩; replace b4 := b3.trans (b4.mono b3.size))
        | (go_at_call 35; refine (HAT.out _).mono ?_; rintro e w1 ⟨rfl, b1⟩)
        | (go_at_call 36; refine use_factM b4 ?_; intro _; refine (HC2.out _).mono ?_; rintro e w5 ⟨rfl, b5⟩; replace b5 := b4.trans (b5.mono b4.size))
        | (go_at_call 36; refine (HC1.out _).mono ?_; rintro e w2 ⟨rfl, b2⟩; replace b2 := b1.trans (b2.mono b1.size))
        | (go_at_call 37; refine (HPR.out _).mono ?_; rintro e w3 ⟨rfl, b3⟩; replace b3 := b2.trans (b3.mono b2.size)))
      go_ret
      exact ⟨by rw [HF.out, ← HNE.out]; rfl, b5⟩
    · go_enter Try.func18, Try.ntmps18
      go_wp2_with (first
        | (go_at_call 35; refine use_factM b3 ?_; intro _; refine (HAP.out _).mono ?_; rintro e w4 ⟨rfl, b4⟩; replace b4 := b3.trans (b4.mono b3.size))
        | (go_at_call 35; refine (HAT.out _).mono ?_; rintro e w1 ⟨rfl, b1⟩)
        | (go_at_call 36; refine use_factM b4 ?_; intro _; refine (HC2.out _).mono ?_; rintro e w5 ⟨rfl, b5⟩; replace b5 := b4.trans (b5.mono b4.size))
        | (go_at_call 36; refine (HC1.out _).mono ?_; rintro e w2 ⟨rfl, b2⟩; replace b2 := b1.trans (b2.mono b1.size))
        | (go_at_call 37; refine (HPR.out _).mono ?_; rintro e w3 ⟨rfl, b3⟩; replace b3 := b2.trans (b3.mono b2.size)))
      go_ret
      exact ⟨by rw [HF.out, ← HNE.out]; rfl, b5⟩
  · have HF : Hid (res = false) := by
      show res = _
      rw [HQ.out, decide_eq_false (show ¬ cx = 1 by omega), decide_eq_false (show ¬ cx = 2 by omega)]
      rfl
    have e1 : ((cx : Int) != 1) = true := by rw [bne_iff_ne]; omega
    have e2 : ((cx : Int) != 2) = true := by rw [bne_iff_ne]; omega
    clear hc HQ
    go_enter Try.func18, Try.ntmps18
    go_wp2_with (first
      | (go_at_call 35; refine (HAT.out _).mono ?_; rintro e w1 ⟨rfl, b1⟩)
      | (go_at_call 36; refine (HC1.out _).mono ?_; rintro e w2 ⟨rfl, b2⟩; replace b2 := b1.trans (b2.mono b1.size)))
    go_ret
    exact ⟨by rw [HF.out]; rfl, b2⟩
/-- the beginnings of words behind the first sign -/
def wordQ (L : List (Nat × Nat)) (i : Nat) : Bool := decide (0 < i) && begQ L i
def wantM (S : List UInt8) : List Nat := placesTo (chars S) (wordQ (chars S)) (chars S).length
theorem wantM_eq (S : List UInt8) : wantM S = (begsM (chars S)).filter fun x => decide (0 < x) := by
  unfold wantM begsM placesTo
  rw [List.filter_map, List.filter_filter]
  congr 1
  refine List.filter_congr fun i hi => ?_
  have hi' := List.mem_range.1 hi
  have h0 := atM_lt (S := S) (i := 0) (j := i) (by omega) (by omega)
  rw [show atM S 0 = 0 by simp [atM, width]] at h0
  show wordQ (chars S) i = (decide (0 < atM S i) && begQ (chars S) i)
  unfold wordQ
  by_cases h : 0 < i
  · rw [decide_eq_true h, decide_eq_true (h0.2 h)]
  · rw [decide_eq_false h, decide_eq_false (fun k => h (h0.1 k))]
theorem want_rises (S : List UInt8) : Rises (wantM S) := places_rises S _
theorem want_in {S : List UInt8} : ∀ x ∈ wantM S, x ∈ begsM (chars S) := fun x hx => by rw [wantM_eq] at hx; exact (List.mem_filter.1 hx).1
theorem want_lt {S : List UInt8} : ∀ x ∈ wantM S, x < S.length := places_lt
theorem want_pos {S : List UInt8} : ∀ x ∈ wantM S, 0 < x := fun x hx => by rw [wantM_eq] at hx; exact of_decide_eq_true (List.mem_filter.1 hx).2
/-- where one stands ahead of step number j -/
def standM (S : List UInt8) (j : Nat) : Nat := if j = 0 then 0 else (wantM S ++ [S.length]).getD (j - 1) 0
theorem want_beg {S : List UInt8} {x : Nat} (h : x ∈ wantM S ++ [S.length]) : Beg S x := by
  rcases List.mem_append.1 h with h | h
  · exact Beg.places h
  · rw [List.mem_singleton.1 h]; exact Beg.last S
theorem stand_succ {S : List UInt8} {j : Nat} (h : j < (wantM S ++ [S.length]).length) : standM S (j + 1) = (wantM S ++ [S.length])[j] := by
  unfold standM
  rw [if_neg (by omega), Nat.add_sub_cancel, List.getD_eq_getElem?_getD, List.getElem?_eq_getElem h]
  rfl
theorem behind_stand {S : List UInt8} {j : Nat} (h : j < (wantM S ++ [S.length]).length) : (behindM (begsM (chars S)) (standM S j) 1).getD S.length = (wantM S ++ [S.length])[j] := by
  have hl : (wantM S ++ [S.length]).length = (wantM S).length + 1 := by simp
  have hk : behindM (begsM (chars S)) (standM S j) 1 = (wantM S)[j]? := by
    cases j with
    | zero =>
      unfold behindM standM
      rw [if_pos rfl, wantM_eq]
    | succ j =>
      have hj : j < (wantM S).length := by omega
      have hs : standM S (j + 1) = (wantM S)[j] := by
        rw [stand_succ (by omega), List.getElem_append_left hj]
      have hpos := want_pos _ (List.getElem_mem hj)
      have hf := rises_filter_drop (want_rises S) (List.getElem?_eq_getElem hj)
      unfold behindM
      rw [hs]
      rw [← filter_filter_lt (begsM (chars S)) hpos, ← wantM_eq, hf, List.getElem?_drop]
  rw [hk]
  rcases Nat.lt_or_ge j (wantM S).length with hj | hj
  · rw [List.getElem?_eq_getElem hj, List.getElem_append_left hj]; rfl
  · obtain rfl : j = (wantM S).length := by omega
    rw [List.getElem?_eq_none (Nat.le_refl _)]
    simp
theorem stand_beg (S : List UInt8) (j : Nat) (h : j ≤ (wantM S ++ [S.length]).length) : Beg S (standM S j) := by
  cases j with
  | zero => exact Beg.zero S
  | succ j =>
    rw [stand_succ h]
    exact want_beg (List.getElem_mem h)
/-- a step by w -/
theorem step_w {S : List UInt8} {j : Nat} (h : j < (wantM S ++ [S.length]).length) : toM S (standM S j : Nat) 119 0 0 = exclM (standM S j) (some (wantM S ++ [S.length])[j]) := by
  rw [toM_w, (stand_beg S j (by omega)).align, show manyM 0 = 1 from rfl, behind_stand h]
theorem last_w (S : List UInt8) : toM S (S.length : Nat) 119 0 0 = none := by
  rw [toM_w, (Beg.last S).align, behindM_far (by decide) (fun x hx => by have := begs_lt x hx; omega)]
  exact if_pos rfl
theorem ahead_one {l : List Nat} (hr : Rises l) {a x : Nat} (hx : x ∈ l) (hxa : x < a) (hn : ∀ y ∈ l, x < y → a ≤ y) : aheadM l a 1 = some x := by
  obtain ⟨k, hk, rfl⟩ := List.getElem_of_mem hx
  refine aheadM_hit hk hxa ?_
  rw [List.filter_eq_nil_iff.2]
  · rfl
  · intro y hy
    have hyl := List.mem_of_mem_drop hy
    have hf := rises_filter_drop hr (List.getElem?_eq_getElem hk)
    rw [← hf] at hy
    have := hn y hyl (of_decide_eq_true (List.mem_filter.1 hy).2)
    simp; omega
/-- a step by b -/
theorem step_b {S : List UInt8} {j : Nat} (h : j < (wantM S).length) : toM S (standM S (j + 2) : Nat) 98 0 0 = some ((wantM S)[j], 0) := by
  have hl : (wantM S ++ [S.length]).length = (wantM S).length + 1 := by simp
  have hs : standM S (j + 2) = (wantM S ++ [S.length])[j + 1]'(by omega) := stand_succ (by omega)
  have hbg := stand_beg S (j + 2) (by omega)
  have hm := List.getElem_mem h
  have hpos := want_pos _ hm
  have hlt : (wantM S)[j] < standM S (j + 2) := by
    rw [hs]
    rcases Nat.lt_or_ge (j + 1) (wantM S).length with hj | hj
    · rw [List.getElem_append_left hj]
      exact List.pairwise_iff_getElem.1 (want_rises S) j (j + 1) h hj (by omega)
    · rw [List.getElem_append_right hj]
      simp
      exact want_lt _ hm
  rw [toM_b, hbg.align, show manyM 0 = 1 from rfl]
  have ha : aheadM (begsM (chars S)) (standM S (j + 2)) 1 = some (wantM S)[j] := by
    refine ahead_one (begs_rises S) (want_in _ hm) hlt fun y hy hxy => ?_
    have hyw : y ∈ wantM S := by rw [wantM_eq]; exact List.mem_filter.2 ⟨hy, decide_eq_true (by omega)⟩
    obtain ⟨m, hm2, rfl⟩ := List.getElem_of_mem hyw
    rw [hs]
    have hjm : j < m := by
      rcases Nat.lt_or_ge j m with h' | h'
      · exact h'
      · exfalso
        rcases Nat.eq_or_lt_of_le h' with h2 | h2
        · subst h2; omega
        · have := List.pairwise_iff_getElem.1 (want_rises S) m j hm2 h h2
          omega
    rw [List.getElem_append_left (show j + 1 < (wantM S).length by omega)]
    rcases Nat.eq_or_lt_of_le (show j + 1 ≤ m by omega) with h2 | h2
    · subst h2; exact Nat.le_refl _
    · exact Nat.le_of_lt (List.pairwise_iff_getElem.1 (want_rises S) (j + 1) m (by omega) hm2 h2)
  rw [ha]
  exact excl_mk (by show (wantM S)[j] ≠ standM S (j + 2); omega)
theorem alive_w : toM [97, 98, 32, 99] 0 119 0 0 = some (3, 0) := by decide +kernel
theorem starts_at {S : List UInt8} {k : Nat} (hk : k < (startsAt 0 (chars S)).length) : (startsAt 0 (chars S))[k] = atM S k := by
  have h2 : k < (chars S).length := by rwa [startsAt_len] at hk
  have := startsAt_nth 0 (chars S) k h2
  rw [List.getElem?_eq_getElem hk] at this
  injection this with this
  rw [this, Nat.zero_add]
  rfl
set_option maxHeartbeats 8000000 in
theorem wholeWords_walk (w : World) (KS : MoveSays w) (S : List UInt8) (hS : S.length ≤ maxLen) :
    Calls Try.prog 8 #[.string ⟨S.toArray⟩] w fun e w' => e = .returned (.bool true) ∧ Below w.heap.size w w' := by
  have HK := Lib.hid KS
  have hS' := hS
  unfold maxLen at hS'
  clear KS
  have H0 : Hid (∀ wz, Below w.heap.size w wz → Calls Try.prog 10 #[.string ⟨#[97, 98, 32, 99]⟩, .int .i64 0, .agg #[.int .i32 119, .int .i32 0, .int .i64 0]] wz fun e w' => e = .returned (.tuple #[.int .i64 3, .int .i64 0, .bool true]) ∧ Below wz.heap.size wz w') := fun wz hb => by
    have := HK.out.to_ [97, 98, 32, 99] 0 119 0 0 wz hb (by decide) (by decide) (by decide) (by decide) (by decide)
    rw [alive_w] at this
    exact this
  go_enter Try.func8, Try.ntmps8
  go_upto_region 4 with (go_at_call 10; refine (H0.out _ (Below.refl _ _)).mono ?_; rintro e w1 ⟨rfl, b1⟩)
  clear H0
  by_cases hl : (1000 : Int) < (S.length : Int)
  · go_wp2_with fail
    go_ret
    exact ⟨rfl, b1⟩
  have hlS : S.length ≤ 1000 := by omega
  have hsl : (startsAt 0 (chars S)).length = (chars S).length := startsAt_len _ _
  have hcl := chars_len S
  go_wp2_with (go_at_call 17; refine (glyStarts_any S (by omega) _).mono ?_; rintro e w2 ⟨A2, c2, rfl, own2, b2⟩)
  have z2 := b2.size
  have R2 := Lib.hid ((Row.of_own own2))
  have b2' := b1.trans (b2.mono b1.size)
  clear own2
  generalize hN : (chars S).length = N at *
  have HNN := Lib.hid hN
  clear hN
  have hsl2 : (startsAt 0 (chars S)).length = N := hsl
  go_loopw [6, 44] (fun v i wr => ∃ (k : Nat) (l : List Nat) (A : Option Addr) (c : Nat), k ≤ N ∧ i = .int .i64 k ∧ v = .slice A l.length c ∧ l.length ≤ k ∧ Hid (l = placesTo (chars S) (wordQ (chars S)) k) ∧ Hid (wr.ownsRow w2.heap.size 3 1 (.slice A l.length c) l.length (l.map intn)) ∧ Below w2.heap.size w2 wr) (fun _ i _ => N - (intOf i).toNat)
  case atStart => exact ⟨0, [], none, 0, Nat.zero_le _, rfl, rfl, Nat.le_refl _, rfl, World.ownsRow_nil _ _ _ _, Below.refl _ _⟩
  case round =>
    obtain ⟨k, l, A, c, hk, rfl, rfl, hlk, HL, OWN, hb⟩ := hrel
    have zr := hb.size
    by_cases hkN : k < N
    · have hkN' : (k : Int) < (N : Int) := by omega
      have hk0 : (0 : Int) ≤ (k : Int) := by omega
      obtain ⟨ad, rfl, _, v0⟩ := intn_at (R2.out.below hb) (show k < (startsAt 0 (chars S)).length by omega)
      rw [starts_at] at v0
      have HY := Lib.hid (fun h => placesTo_yes (L := chars S) (q := wordQ (chars S)) (k := k) h)
      have HNO := Lib.hid (fun h => placesTo_no (L := chars S) (q := wordQ (chars S)) (k := k) h)
      rcases Nat.eq_zero_or_pos k with hz | hkp
      · have h00 : atM S k = 0 := by rw [hz]; simp [atM, width]
        rw [h00] at v0
        have HB := Lib.hid (HNO.out (by unfold wordQ; rw [hz]; simp))
        have HZ := Lib.hid hz
        clear HY HNO hz
        go_wp2_with fail
        go_roundw
        case rel => exact ⟨k + 1, l, A, c, by omega, by go_num, rfl, by omega, by rw [HB.out]; exact HL, OWN, hb⟩
        case measure => simp [intOf]; omega
      · have hp := (atM_lt (S := S) (i := 0) (j := k) (by omega) (by have := HNN.out; omega)).2 hkp
        rw [show atM S 0 = 0 by simp [atM, width]] at hp
        have hp' : (0 : Int) < (atM S k : Int) := by omega
        have hkl : atM S k ≤ 1000 := by
          have := width_le_take (chars S) k
          rw [width_chars] at this
          unfold atM
          omega
        have HWT : Hid (∀ wz, Calls Try.prog 18 #[.string ⟨S.toArray⟩, .int .i64 (atM S k : Nat)] wz fun e w' => e = .returned (.bool (begQ (chars S) k)) ∧ Below wz.heap.size wz w') := fun wz => topWords_any S (by omega) k hkp (by have := HNN.out; omega) wz
        have HA : Hid (atM S k = width ((chars S).take k)) := rfl
        generalize atM S k = ak at *
        rcases hq : begQ (chars S) k with _ | _
        · rw [hq] at HWT
          have HB := Lib.hid (HNO.out (by unfold wordQ; rw [hq]; simp))
          clear HY HNO hq
          go_wp2_with (go_at_call 18; refine (HWT.out _).mono ?_; rintro e w4 ⟨rfl, b4⟩; have b4' := hb.trans (b4.mono zr); have OWN4 := Lib.hid (own_keep OWN.out b4 (Nat.le_refl _)))
          go_roundw
          case rel => exact ⟨k + 1, l, A, c, by omega, by go_num, rfl, by omega, by rw [HB.out]; exact HL, OWN4, b4'⟩
          case measure => simp [intOf]; omega
        · rw [hq] at HWT
          have HB := Lib.hid (HY.out (by unfold wordQ; rw [hq, decide_eq_true hkp]; rfl))
          clear HY HNO hq
          go_upto_region 11 with (go_at_call 18; refine (HWT.out _).mono ?_; rintro e w4 ⟨rfl, b4⟩)
          have b4' := hb.trans (b4.mono zr)
          have OWN4 := Lib.hid (own_keep OWN.out b4 (Nat.le_refl _))
          have z4 := b4'.size
          clear OWN b4
          go_wp2_with (at_builtin; refine wpList_push rfl _ _ _ rfl w2.heap.size 3 _ 8 elt_int 3 (.slice A l.length c) l.length _ rfl OWN4.out (.int .i64 (ak : Int)) rfl rfl (by unfold maxLen; omega) (by omega) (by omega) ?_; intro v5 w5 own5 b5; obtain ⟨A5, c5, rfl⟩ := own_form own5)
          go_roundw
          case rel => exact ⟨k + 1, l ++ [ak], A5, c5, by omega, by go_num, by simp, by simp; omega, by show _ = _; rw [HB.out, ← HA.out, HL.out], by show World.ownsRow _ _ _ _ _ _ _; rw [List.length_append, List.map_append]; exact own5, b4'.trans b5⟩
          case measure => simp [intOf]; omega
    · obtain rfl : k = N := by omega
      have HW : Hid (l = wantM S) := by
        show l = wantM S
        unfold wantM
        rw [HNN.out]
        exact HL.out
      have hkN' : ¬ (k : Int) < (k : Int) := by omega
      clear HL
      go_upto_region 14 with (at_builtin; refine wpList_push rfl _ _ _ rfl w2.heap.size 3 _ 8 elt_int 3 (.slice A l.length c) l.length _ rfl OWN.out (.int .i64 (S.length : Int)) rfl rfl (by unfold maxLen; omega) (by omega) (by omega) ?_; intro v5 w5 own5 b5; obtain ⟨A5, c5, rfl⟩ := own_form own5)
      clear OWN
      rw [HW.out] at own5
      obtain ⟨V, hV⟩ : ∃ V, wantM S ++ [S.length] = V := ⟨_, rfl⟩
      have b5' := hb.trans b5
      have RW : Hid (Row w5 w5.heap.size A5 (V.map intn)) := by
        have := Row.of_own own5
        rw [← hV, List.map_append]
        exact this
      obtain ⟨nw, hnw⟩ : ∃ n, l.length + 1 = n := ⟨_, rfl⟩
      have hVl : V.length = nw := by rw [← hnw, HW.out, ← hV]; simp
      have hWl : (wantM S).length + 1 = nw := by rw [← hnw, HW.out]
      have SB : Hid (∀ j, j ≤ nw → standM S j ≤ S.length) := fun j hj => (stand_beg S j (by rw [hV, hVl]; exact hj)).le
      have SW : Hid (∀ (j : Nat) (h : j < V.length), toM S (standM S j : Nat) 119 0 0 = exclM (standM S j) (some V[j])) := fun j h => by
        subst hV
        exact step_w h
      have SS : Hid (∀ (j : Nat) (h : j < V.length), standM S (j + 1) = V[j]) := fun j h => by
        subst hV
        exact stand_succ h
      have SBB : Hid (∀ (j : Nat) (h : j < V.length), j + 1 < nw → toM S (standM S (j + 2) : Nat) 98 0 0 = some (V[j], 0)) := fun j h h2 => by
        subst hV
        rw [step_b (S := S) (j := j) (by omega), List.getElem_append_left]
      have SL : Hid (standM S nw = S.length) := by
        have := SS.out (nw - 1) (by omega)
        rw [show nw - 1 + 1 = nw by omega] at this
        show standM S nw = _
        rw [this]
        subst hV
        rw [List.getElem_append_right (by omega)]
        simp
      have LW := Lib.hid (last_w S)
      have SZ : Hid (standM S 0 = 0) := if_pos rfl
      have hnk : nw ≤ 1001 := by omega
      have hn1 : 1 ≤ nw := by omega
      rw [hnw]
      clear hV own5 hWl HW R2 hsl hsl2
      clear hnw hlk hb b5
      generalize standM S = st at *
      have z5 := b5'.size
      have bw : Hid (Below w.heap.size w w5) := b2'.trans (b5'.mono b2'.size)
      go_wp2_with fail
      go_loopw [9, 67] (fun a i wr => ∃ j : Nat, j ≤ nw ∧ i = .int .i64 j ∧ a = .int .i64 (st j : Nat) ∧ Below w5.heap.size w5 wr) (fun _ i _ => nw - (intOf i).toNat)
      case atStart => exact ⟨0, Nat.zero_le _, rfl, by rw [SZ.out]; rfl, Below.refl _ _⟩
      case round =>
        obtain ⟨j, hj, rfl, rfl, hb6⟩ := hrel
        have hb6' := bw.out.trans (hb6.mono bw.out.size)
        have hsb := SB.out j hj
        by_cases hjn : j < nw
        · have hjn' : (j : Int) < (nw : Int) := by omega
          have hj0 : (0 : Int) ≤ (j : Int) := by omega
          have hjV : j < V.length := by omega
          obtain ⟨ad, rfl, _, v0⟩ := intn_at (RW.out.below hb6) hjV
          have HT : Hid (∀ wz, Below w.heap.size w wz → Calls Try.prog 10 #[.string ⟨S.toArray⟩, .int .i64 (st j : Nat), .agg #[.int .i32 119, .int .i32 0, .int .i64 0]] wz (GivesIIB wz (exclM (st j) (some V[j])))) := fun wz hbz => by
            have := HK.out.to_ S (st j : Nat) 119 0 0 wz hbz (by omega) (by omega) (by decide) (by decide) (by decide)
            rwa [SW.out j hjV] at this
          have HS := Lib.hid (SS.out j hjV)
          generalize V[j] = x at *
          by_cases hx : x = st j
          · rw [show exclM (st j) (some x) = none from if_pos hx] at HT
            have ex : ((x : Int) == (st j : Int)) = true := by rw [beq_iff_eq]; omega
            clear hx
            go_wp2_with (go_at_call 10; refine (HT.out _ hb6').mono ?_; rintro e w7 ⟨rfl, b7⟩)
            go_ret
            exact ⟨rfl, hb6'.trans (b7.mono hb6'.size)⟩
          · rw [excl_mk hx] at HT
            have ex : ((x : Int) == (st j : Int)) = false := by rw [beq_eq_false_iff_ne]; omega
            have exx : ((x : Int) != (x : Int)) = false := by simp
            clear hx
            go_wp2_with (go_at_call 10; refine (HT.out _ hb6').mono ?_; rintro e w7 ⟨rfl, b7⟩)
            go_roundw
            case rel => exact ⟨j + 1, by omega, by go_num, by rw [HS.out], hb6.trans (b7.mono hb6.size)⟩
            case measure => simp [intOf]; omega
        · obtain rfl : j = nw := by omega
          have hjn' : ¬ (j : Int) < (j : Int) := by omega
          rw [SL.out]
          have HT : Hid (∀ wz, Below w.heap.size w wz → Calls Try.prog 10 #[.string ⟨S.toArray⟩, .int .i64 (S.length : Nat), .agg #[.int .i32 119, .int .i32 0, .int .i64 0]] wz (GivesIIB wz none)) := fun wz hbz => by
            have := HK.out.to_ S (S.length : Nat) 119 0 0 wz hbz (by omega) (by omega) (by decide) (by decide) (by decide)
            rwa [LW.out] at this
          go_wp2_with (go_at_call 10; refine (HT.out _ hb6').mono ?_; rintro e w7 ⟨rfl, b7⟩)
          have b7' := hb6.trans (b7.mono hb6.size)
          clear b7 HT hb6 hb6'
          go_loopw [9, 18] (fun a i wr => ∃ k : Nat, k + 1 ≤ j ∧ i = .int .i64 ((k : Int) - 1) ∧ a = .int .i64 (st (k + 1) : Nat) ∧ Below w5.heap.size w5 wr) (fun _ i _ => ((intOf i) + 1).toNat)
          case atStart => exact ⟨j - 1, by omega, by rw [show (((j - 1 : Nat) : Int) - 1) = (j : Int) - 2 by omega], by rw [show j - 1 + 1 = j by omega, SL.out], b7'⟩
          case round =>
            clear b7'
            obtain ⟨m, hm, rfl, rfl, hb8⟩ := hrel
            have hb8' := bw.out.trans (hb8.mono bw.out.size)
            have hsb2 := SB.out (m + 1) hm
            rcases m with _ | m
            · go_wp2_with fail
              go_ret
              exact ⟨rfl, hb8'⟩
            · have hmV : m < V.length := by omega
              have hm0 : (0 : Int) ≤ (m : Int) := by omega
              have hme : ((m + 1 : Nat) : Int) - 1 = (m : Int) := by omega
              rw [hme]
              clear hme
              have hmn : (m : Int) < (j : Int) := by omega
              obtain ⟨ad, rfl, hadb, v0⟩ := intn_at (RW.out.below hb8) hmV
              have HT : Hid (∀ wz, Below w.heap.size w wz → Calls Try.prog 10 #[.string ⟨S.toArray⟩, .int .i64 (st (m + 1 + 1) : Nat), .agg #[.int .i32 98, .int .i32 0, .int .i64 0]] wz (GivesIIB wz (some (V[m], 0)))) := fun wz hbz => by
                have hs9 : st (m + 2) ≤ S.length := hsb2
                have := HK.out.to_ S (st (m + 2) : Nat) 98 0 0 wz hbz (by omega) (by omega) (by decide) (by decide) (by decide)
                rwa [SBB.out m hmV (by omega)] at this
              have HS := Lib.hid (SS.out m hmV)
              generalize V[m] = x at *
              have exx : ((x : Int) != (x : Int)) = false := by simp
              go_wp2_with (go_at_call 10; refine (HT.out _ hb8').mono ?_; rintro e w9 ⟨rfl, b9⟩; have v9 := (b9.cell (p := ad.add m) (by rw [add_block]; have := hb8.size; omega)).trans v0)
              go_roundw
              case rel => exact ⟨m, by omega, by go_num, by rw [HS.out], hb8.trans (b9.mono hb8.size)⟩
              case measure => simp [intOf]
end Go.Proofs.Ytckikigjleckeaa

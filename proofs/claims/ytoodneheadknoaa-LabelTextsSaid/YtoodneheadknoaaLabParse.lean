/-
  Plain facts on labels as texts: leading numbers, one step of a parse, texts decode in one way alone. No program here.
-/
import Derived.Test.YtoodneheadknoaaLabText
namespace Go.Proofs.Ytoodneheadknoaa

def isDig (b : UInt8) : Bool := decide (48 ≤ (b.toNat : Int)) && decide ((b.toNat : Int) ≤ 57)
def digRun (s : List UInt8) : List UInt8 := (s.takeWhile isDig).take 2
def valOf (D : List UInt8) : Nat := D.foldl (fun c b => 10 * c + (b.toNat - 48)) 0
def lead (s : List UInt8) : Nat × Nat := if (digRun s).length = 2 ∧ valOf (digRun s) < 10 ∨ 64 ≤ valOf (digRun s) then (0, 0) else (valOf (digRun s), (digRun s).length)

theorem valOf_snoc (D : List UInt8) (b : UInt8) : valOf (D ++ [b]) = 10 * valOf D + (b.toNat - 48) := by unfold valOf; rw [List.foldl_append]; rfl

theorem digRun_le (s : List UInt8) : (digRun s).length ≤ 2 ∧ (digRun s).length ≤ s.length := by
  unfold digRun
  rw [List.length_take]
  have := (List.takeWhile_sublist (p := isDig) (l := s)).length_le
  omega
theorem digRun_cons (a : UInt8) (t : List UInt8) : digRun (a :: t) = if isDig a then a :: (t.takeWhile isDig).take 1 else [] := by
  unfold digRun
  rw [List.takeWhile_cons]
  split <;> simp
theorem digRun_pre (s : List UInt8) : ∃ r, s = digRun s ++ r := by
  obtain ⟨r1, h1⟩ := List.takeWhile_prefix (l := s) isDig
  refine ⟨(s.takeWhile isDig).drop 2 ++ r1, ?_⟩
  unfold digRun
  rw [← List.append_assoc, List.take_append_drop, h1]
theorem digRun_get (s : List UInt8) (k : Nat) (h : k < (digRun s).length) : ∃ h' : k < s.length, s[k] = (digRun s)[k] ∧ isDig s[k] = true := by
  have hl := digRun_le s
  have h' : k < s.length := by omega
  refine ⟨h', ?_⟩
  obtain ⟨r, hr⟩ := digRun_pre s
  have e : s[k] = (digRun s)[k] := by
    have : s[k]? = (digRun s)[k]? := by
      conv => lhs; rw [hr]
      rw [List.getElem?_append_left h]
    rw [List.getElem?_eq_getElem h', List.getElem?_eq_getElem h] at this
    exact Option.some.inj this
  refine ⟨e, ?_⟩
  rw [e]
  have hm : (digRun s)[k] ∈ s.takeWhile isDig := List.mem_of_mem_take (List.getElem_mem h)
  exact (List.all_eq_true.1 (List.all_takeWhile (l := s) (p := isDig))) _ hm
theorem digRun_end (s : List UInt8) (h2 : (digRun s).length < 2) (h : (digRun s).length < s.length) : isDig (s[(digRun s).length]) = false := by
  have hl : (digRun s).length = (s.takeWhile isDig).length := by
    unfold digRun at h2 ⊢
    rw [List.length_take] at h2 ⊢
    omega
  have e : s = s.takeWhile isDig ++ s.dropWhile isDig := List.takeWhile_append_dropWhile.symm
  have hd : s.dropWhile isDig ≠ [] := by
    intro h0
    rw [h0, List.append_nil] at e
    have := congrArg List.length e
    omega
  obtain ⟨b, t, hbt⟩ := List.exists_cons_of_ne_nil hd
  have hb : isDig b = false := by
    have := List.head_dropWhile_not isDig (l := s) hd
    simpa [hbt] using this
  have hidx : (s.takeWhile isDig ++ s.dropWhile isDig)[(s.takeWhile isDig).length]? = some b := by
    rw [List.getElem?_append_right (Nat.le_refl _), hbt]; simp
  have : s[(digRun s).length]? = some b := by
    rw [hl]; rw [List.takeWhile_append_dropWhile] at hidx; exact hidx
  rw [List.getElem?_eq_getElem h] at this
  rw [Option.some.inj this]; exact hb

theorem dig_nat {b : UInt8} (h : isDig b = true) : 48 ≤ b.toNat ∧ b.toNat ≤ 57 := by
  unfold isDig at h
  simp at h
  omega
theorem dig_val {b : UInt8} (h : isDig b = true) : UInt8.ofNat (48 + (b.toNat - 48)) = b := by
  have := dig_nat h
  have e : 48 + (b.toNat - 48) = b.toNat := by omega
  rw [e]; simp

theorem lead_shape (s : List UInt8) : (digRun s = [] ∧ valOf (digRun s) = 0) ∨ (∃ a, digRun s = [a] ∧ isDig a = true ∧ valOf (digRun s) = a.toNat - 48) ∨ (∃ a b, digRun s = [a, b] ∧ isDig a = true ∧ isDig b = true ∧ valOf (digRun s) = 10 * (a.toNat - 48) + (b.toNat - 48)) := by
  have hl := digRun_le s
  have hall : ∀ b ∈ digRun s, isDig b = true := fun b hb => by
    obtain ⟨k, hk, rfl⟩ := List.getElem_of_mem hb
    obtain ⟨h', e, hd⟩ := digRun_get s k hk
    rw [← e]; exact hd
  generalize digRun s = D at *
  match D, hl with
  | [], _ => exact .inl ⟨rfl, rfl⟩
  | [a], _ => exact .inr (.inl ⟨a, rfl, hall a (by simp), by simp [valOf]⟩)
  | [a, b], _ => exact .inr (.inr ⟨a, b, rfl, hall a (by simp), hall b (by simp), by simp [valOf]⟩)
  | _ :: _ :: _ :: _, h => simp at h

theorem lead_yes {s : List UInt8} {c n : Nat} (h : lead s = (c, n)) (hn : n ≠ 0) : c < 64 ∧ n ≤ s.length ∧ n = (digs c).length ∧ ∃ r, s = digs c ++ r := by
  unfold lead at h
  split at h
  · cases h; exact absurd rfl hn
  · rename_i hc
    cases h
    obtain ⟨r, hr⟩ := digRun_pre s
    have hl := digRun_le s
    have key : digs (valOf (digRun s)) = digRun s := by
      rcases lead_shape s with ⟨e, _⟩ | ⟨a, e, ha, hv⟩ | ⟨a, b, e, ha, hb, hv⟩
      · rw [e] at hn; exact absurd rfl hn
      · rw [hv, e]
        have := dig_nat ha
        unfold digs
        rw [if_neg (by omega), Nat.mod_eq_of_lt (by omega), dig_val ha]
      · rw [hv, e] at hc
        have h1 := dig_nat ha
        have h2 := dig_nat hb
        have h10 : 10 ≤ 10 * (a.toNat - 48) + (b.toNat - 48) := by
          have : ¬ (10 * (a.toNat - 48) + (b.toNat - 48) < 10) := fun hx => hc (.inl ⟨rfl, hx⟩)
          omega
        rw [hv, e]
        unfold digs
        rw [if_pos h10]
        have e1 : (10 * (a.toNat - 48) + (b.toNat - 48)) / 10 = a.toNat - 48 := by omega
        have e2 : (10 * (a.toNat - 48) + (b.toNat - 48)) % 10 = b.toNat - 48 := by omega
        rw [e1, e2, dig_val ha, dig_val hb]
    refine ⟨by omega, hl.2, by rw [key], r, ?_⟩
    rw [key]; exact hr

theorem lead_no {s : List UInt8} {c n : Nat} (h : lead s = (c, n)) : n = 0 → c = 0 := by
  unfold lead at h
  split at h
  · cases h; intro _; rfl
  · cases h
    intro h0
    have : digRun s = [] := List.eq_nil_of_length_eq_zero h0
    rw [this]; rfl

theorem dig_of {n : Nat} (h : n < 10) : isDig (UInt8.ofNat (48 + n)) = true := by
  unfold isDig
  rw [UInt8.toNat_ofNat', Nat.mod_eq_of_lt (by omega)]
  simp; omega

/-- a number, and no digit behind it -/
theorem lead_digs {c : Nat} {r : List UInt8} (hc : c < 64) (hr : ∀ b t, r = b :: t → isDig b = false) : lead (digs c ++ r) = (c, (digs c).length) := by
  have hw : r.takeWhile isDig = [] := by
    cases r with
    | nil => rfl
    | cons b t => rw [List.takeWhile_cons, hr b t rfl]; rfl
  by_cases h10 : 10 ≤ c
  · have e : digs c = [UInt8.ofNat (48 + c / 10), UInt8.ofNat (48 + c % 10)] := if_pos h10
    have hrun : digRun (digs c ++ r) = digs c := by
      have h1 := dig_of (show c / 10 < 10 by omega)
      have h2 := dig_of (show c % 10 < 10 by omega)
      rw [e]; unfold digRun
      generalize UInt8.ofNat (48 + c / 10) = d1 at *
      generalize UInt8.ofNat (48 + c % 10) = d2 at *
      simp [List.takeWhile_cons, h1, h2]
    have hv : valOf (digs c) = c := by
      rw [e]; unfold valOf
      simp only [List.foldl_cons, List.foldl_nil, UInt8.toNat_ofNat']
      omega
    unfold lead
    rw [hrun, hv, if_neg (by omega)]
  · have e : digs c = [UInt8.ofNat (48 + c % 10)] := if_neg h10
    have hrun : digRun (digs c ++ r) = digs c := by
      have h2 := dig_of (show c % 10 < 10 by omega)
      rw [e]; unfold digRun
      generalize UInt8.ofNat (48 + c % 10) = d2 at *
      simp [List.takeWhile_cons, h2, hw]
    have hv : valOf (digs c) = c := by
      rw [e]; unfold valOf
      simp only [List.foldl_cons, List.foldl_nil, UInt8.toNat_ofNat']
      omega
    unfold lead
    rw [hrun, hv, e]
    rw [if_neg (by simp; omega)]

/-- texts of categories, from the front -/
theorem dots_cons (c : Nat) (cs : List Nat) : dots (c :: cs) = digs c ++ (if cs = [] then [] else 46 :: dots cs) := by
  have key : ∀ (ds : List Nat) (t : List UInt8), 0 < t.length → ds.foldl dotStep t = t ++ (if ds = [] then [] else 46 :: dots ds) := by
    intro ds
    induction ds with
    | nil => intro t _; simp
    | cons d ds ih =>
      intro t ht
      rw [List.foldl_cons]
      have h1 := digs_len d
      have e1 : dotStep t d = t ++ 46 :: digs d := by unfold dotStep; rw [if_pos ht]; simp
      have e2 : dots (d :: ds) = digs d ++ (if ds = [] then [] else 46 :: dots ds) := by
        unfold dots
        rw [List.foldl_cons]
        have : dotStep [] d = digs d := by unfold dotStep; simp
        rw [this, ih (digs d) (by omega)]
        rfl
      rw [e1, ih _ (by simp; omega), e2]
      simp
  have h1 := digs_len c
  have : dots (c :: cs) = cs.foldl dotStep (digs c) := by
    unfold dots
    rw [List.foldl_cons]
    have : dotStep [] c = digs c := by unfold dotStep; simp
    rw [this]
  rw [this, key cs (digs c) (by omega)]

theorem dot_no_dig : isDig 46 = false := by decide

/-- what one step of a parse finds in the text of categories -/
theorem dots_lead {c : Nat} {cs : List Nat} (hc : c < 64) : lead (dots (c :: cs)) = (c, (digs c).length) := by
  rw [dots_cons]
  refine lead_digs hc fun b t h => ?_
  split at h
  · cases h
  · cases h; exact dot_no_dig


theorem bits_eq' {a b : Nat} (ha : a < 18446744073709551616) (hb : b < 18446744073709551616) (h : ∀ i, i < 64 → a.testBit i = b.testBit i) : a = b := by
  refine Nat.eq_of_testBit_eq (fun i => ?_)
  by_cases hi : i < 64
  · exact h i hi
  · have e : ∀ {x : Nat}, x < 18446744073709551616 → x.testBit i = false := fun {x} hx =>
      Nat.testBit_lt_two_pow (Nat.lt_of_lt_of_le (show x < 2 ^ 64 from hx) (Nat.pow_le_pow_right (by decide) (by omega)))
    rw [e ha, e hb]

/-- the label of categories -/
def lab (cs : List Nat) : Nat := cs.foldl (fun l c => l ||| 2 ^ c) 0
theorem lab_snoc (cs : List Nat) (c : Nat) : lab (cs ++ [c]) = lab cs ||| 2 ^ c := by unfold lab; rw [List.foldl_append]; rfl
theorem lab_bit (cs : List Nat) (i : Nat) : (lab cs).testBit i = decide (i ∈ cs) := by
  have key : ∀ (ds : List Nat) (l : Nat), (ds.foldl (fun l c => l ||| 2 ^ c) l).testBit i = (l.testBit i || decide (i ∈ ds)) := by
    intro ds
    induction ds with
    | nil => intro l; simp
    | cons d ds ih =>
      intro l
      rw [List.foldl_cons, ih, Nat.testBit_or, Nat.testBit_two_pow, Bool.or_assoc]
      congr 1
      by_cases h : d = i
      · subst h; simp
      · have h' : ¬ i = d := fun e => h e.symm
        simp [h, h']
  unfold lab
  rw [key]; simp
theorem lab_lt (cs : List Nat) (h : ∀ c ∈ cs, c < 64) : lab cs < 18446744073709551616 := by
  have key : ∀ (ds : List Nat) (l : Nat), l < 18446744073709551616 → (∀ c ∈ ds, c < 64) → ds.foldl (fun l c => l ||| 2 ^ c) l < 18446744073709551616 := by
    intro ds
    induction ds with
    | nil => intro l h _; exact h
    | cons d ds ih => intro l hl hd; exact ih _ (or_lt hl (pow_lt (hd d (by simp)))) (fun c hc => hd c (by simp [hc]))
  exact key cs 0 (by decide) h
theorem catsTo_sorted (l k : Nat) : (catsTo l k).Pairwise (· < ·) := by
  unfold catsTo
  exact List.Pairwise.filter _ List.pairwise_lt_range
theorem mem_catsTo (l k i : Nat) : i ∈ catsTo l k ↔ i < k ∧ l.testBit i = true := by unfold catsTo; simp
theorem sorted_ext : ∀ {a b : List Nat}, a.Pairwise (· < ·) → b.Pairwise (· < ·) → (∀ i, i ∈ a ↔ i ∈ b) → a = b := by
  intro a
  induction a with
  | nil =>
    intro b _ _ h
    cases b with
    | nil => rfl
    | cons y b => exact absurd ((h y).2 (by simp)) (by simp)
  | cons x a ih =>
    intro b ha hb h
    cases b with
    | nil => exact absurd ((h x).1 (by simp)) (by simp)
    | cons y b =>
      rw [List.pairwise_cons] at ha hb
      have hxy : x = y := by
        have h1 := (h x).1 (by simp)
        have h2 := (h y).2 (by simp)
        simp at h1 h2
        rcases h1 with h1 | h1
        · exact h1
        · rcases h2 with h2 | h2
          · exact h2.symm
          · have := hb.1 x h1
            have := ha.1 y h2
            omega
      subst hxy
      congr 1
      refine ih ha.2 hb.2 fun i => ⟨fun hi => ?_, fun hi => ?_⟩
      · have := (h i).1 (by simp [hi])
        simp at this
        rcases this with e | e
        · have := ha.1 i hi; omega
        · exact e
      · have := (h i).2 (by simp [hi])
        simp at this
        rcases this with e | e
        · have := hb.1 i hi; omega
        · exact e
theorem catsTo_lab {cs : List Nat} (hs : cs.Pairwise (· < ·)) (h : ∀ c ∈ cs, c < 64) : catsTo (lab cs) 64 = cs :=
  sorted_ext (catsTo_sorted _ _) hs fun i => by
    rw [mem_catsTo, lab_bit]
    simp
    exact fun hi => h i hi
theorem lab_cats {l : Nat} (hl : l < 18446744073709551616) : lab (catsTo l 64) = l :=
  bits_eq' (lab_lt _ (catsTo_lt l 64)) hl fun i hi => by
    rw [lab_bit]
    have := mem_catsTo l 64 i
    cases h : l.testBit i <;> simp [this, h, hi]
theorem lab_ne {cs : List Nat} (h : cs ≠ []) : lab cs ≠ 0 := by
  obtain ⟨c, t, rfl⟩ := List.exists_cons_of_ne_nil h
  intro h0
  have := lab_bit (c :: t) c
  rw [h0] at this
  simp at this
theorem catsTo_ne {l : Nat} (hl : l < 18446744073709551616) (h : l ≠ 0) : catsTo l 64 ≠ [] := by
  intro h0
  have := lab_cats hl
  rw [h0] at this
  exact h this.symm
theorem print_lab {cs : List Nat} (hs : cs.Pairwise (· < ·)) (h : ∀ c ∈ cs, c < 64) (hne : cs ≠ []) : printN (lab cs) = dots cs := by
  unfold printN
  rw [if_neg (lab_ne hne), catsTo_lab hs h]

theorem dots_inj : ∀ {a b : List Nat}, (∀ c ∈ a, c < 64) → (∀ c ∈ b, c < 64) → dots a = dots b → a = b := by
  have hpos : ∀ (c : Nat) (t : List Nat), 0 < (dots (c :: t)).length := fun c t => by
    rw [dots_cons]; have := digs_len c; simp; omega
  intro a
  induction a with
  | nil =>
    intro b _ _ h
    cases b with
    | nil => rfl
    | cons y b => have := hpos y b; rw [← h] at this; simp [dots] at this
  | cons x a ih =>
    intro b ha hb h
    cases b with
    | nil => have := hpos x a; rw [h] at this; simp [dots] at this
    | cons y b =>
      have h1 := dots_lead (cs := a) (ha x (by simp))
      have h2 := dots_lead (cs := b) (hb y (by simp))
      rw [h, h2] at h1
      injection h1 with h1 _
      subst h1
      rw [dots_cons, dots_cons] at h
      have ht := List.append_cancel_left h
      congr 1
      by_cases ha0 : a = []
      · by_cases hb0 : b = []
        · rw [ha0, hb0]
        · rw [if_pos ha0, if_neg hb0] at ht; cases ht
      · by_cases hb0 : b = []
        · rw [if_neg ha0, if_pos hb0] at ht; cases ht
        · rw [if_neg ha0, if_neg hb0] at ht
          injection ht with _ ht
          exact ih (fun c hc => ha c (by simp [hc])) (fun c hc => hb c (by simp [hc])) ht
theorem print_zero {m : Nat} (hm : m < 18446744073709551616) (h : printN m = [45]) : m = 0 := by
  by_cases h0 : m = 0
  · exact h0
  · exfalso
    unfold printN at h
    rw [if_neg h0] at h
    obtain ⟨d, t, e⟩ := List.exists_cons_of_ne_nil (catsTo_ne hm h0)
    rw [e] at h
    have hd : d < 64 := catsTo_lt m 64 d (by rw [e]; simp)
    have hl := dots_lead (cs := t) hd
    rw [h] at hl
    have : lead [45] = (0, 0) := by decide
    rw [this] at hl
    injection hl with _ hl
    have := digs_len d
    omega
theorem print_inj {l m : Nat} (hl : l < 18446744073709551616) (hm : m < 18446744073709551616) (h : printN l = printN m) : l = m := by
  by_cases h0 : l = 0
  · subst h0
    exact (print_zero hm h.symm).symm
  · by_cases h1 : m = 0
    · subst h1
      exact print_zero hl h
    · unfold printN at h
      rw [if_neg h0, if_neg h1] at h
      have := dots_inj (catsTo_lt l 64) (catsTo_lt m 64) h
      rw [← lab_cats hl, this, lab_cats hm]

/-- what is told of a text: the label that it is printed of, or that there is none -/
def Told (S : List UInt8) (r : Option Nat) : Prop := match r with
  | some l => l < 18446744073709551616 ∧ printN l = S
  | none => ∀ l, l < 18446744073709551616 → printN l ≠ S

def pre (cs : List Nat) : List UInt8 := if cs = [] then [] else dots cs ++ [46]
theorem dots_pre (cs : List Nat) (c : Nat) : dots (cs ++ [c]) = pre cs ++ digs c := by
  rw [dots_snoc]
  unfold dotStep pre
  by_cases h : cs = []
  · subst h; simp [dots]
  · rw [if_neg h]
    have : 0 < (dots cs).length := by
      obtain ⟨d, t, rfl⟩ := List.exists_cons_of_ne_nil h
      rw [dots_cons]
      have := digs_len d
      simp; omega
    rw [if_pos this]
theorem pre_snoc (cs : List Nat) (c : Nat) : pre (cs ++ [c]) = pre cs ++ digs c ++ [46] := by
  unfold pre
  rw [if_neg (by simp)]
  rw [dots_pre]; rfl

/-- how far a parse has come: cs have been read, s is left -/
structure PInv (S : List UInt8) (cs : List Nat) (s : List UInt8) (least : Nat) : Prop where
  text : S = pre cs ++ s
  sorted : cs.Pairwise (· < ·)
  small : ∀ c ∈ cs, c < 64
  up : ∀ c ∈ cs, c < least
  low : ∀ x, (∀ c ∈ cs, c < x) → least ≤ x
  back : ∀ ds, (∀ d ∈ ds, d < 64) → ds ≠ [] → dots ds = S → ∃ ds', ds' ≠ [] ∧ ds = cs ++ ds' ∧ dots ds' = s

theorem PInv.start (S : List UInt8) : PInv S [] S 0 := ⟨rfl, List.Pairwise.nil, by simp, by simp, fun _ _ => Nat.zero_le _, fun ds _ h1 h2 => ⟨ds, h1, rfl, h2⟩⟩

section
variable {S s : List UInt8} {cs : List Nat} {least c n : Nat}
/-- a label that is printed so: what is left of it begins with what stands next -/
theorem PInv.next (h : PInv S cs s least) (hS : S ≠ [45]) {l : Nat} (hl : l < 18446744073709551616) (hp : printN l = S) :
    ∃ d ds, lead s = (d, (digs d).length) ∧ s = dots (d :: ds) ∧ least ≤ d := by
  have h0 : l ≠ 0 := by
    intro h0; subst h0
    exact hS (by rw [← hp]; rfl)
  have hd : dots (catsTo l 64) = S := by rw [← hp]; unfold printN; rw [if_neg h0]
  obtain ⟨ds', hne, e, hds⟩ := h.back (catsTo l 64) (catsTo_lt l 64) (catsTo_ne hl h0) hd
  obtain ⟨d, t, rfl⟩ := List.exists_cons_of_ne_nil hne
  have hd64 : d < 64 := catsTo_lt l 64 d (by rw [e]; simp)
  have hsort := catsTo_sorted l 64
  rw [e, List.pairwise_append] at hsort
  exact ⟨d, t, by rw [← hds]; exact dots_lead hd64, hds.symm, h.low d fun x hx => hsort.2.2 x hx d (by simp)⟩
theorem PInv.none1 (h : PInv S cs s least) (hS : S ≠ [45]) (hle : lead s = (c, n)) (hbad : n = 0 ∨ c < least) : Told S none := by
  intro l hl hp
  obtain ⟨d, ds, h1, _, h3⟩ := h.next hS hl hp
  rw [hle] at h1
  injection h1 with h1 h2
  have := digs_len d
  omega
theorem PInv.none2 (h : PInv S cs s least) (hS : S ≠ [45]) (hle : lead s = (c, n)) (hn : n ≠ s.length) (hd : s[n]? ≠ some 46) : Told S none := by
  intro l hl hp
  obtain ⟨d, ds, h1, h2, h3⟩ := h.next hS hl hp
  rw [hle] at h1
  injection h1 with h4 h5
  rw [dots_cons] at h2
  by_cases hds : ds = []
  · rw [if_pos hds, List.append_nil] at h2
    exact hn (by rw [h5, h2])
  · rw [if_neg hds] at h2
    apply hd
    rw [h5, h2, List.getElem?_append_right (Nat.le_refl _)]
    simp
theorem PInv.done (h : PInv S cs s least) (hle : lead s = (c, n)) (h0 : n ≠ 0) (hc : least ≤ c) (hn : n = s.length) : Told S (some (lab cs ||| 2 ^ c)) := by
  obtain ⟨h1, h2, h3, r, h4⟩ := lead_yes hle h0
  have hr : r = [] := by
    have := congrArg List.length h4
    simp at this
    exact List.eq_nil_of_length_eq_zero (by omega)
  subst hr
  rw [List.append_nil] at h4
  have hall : ∀ x ∈ cs ++ [c], x < 64 := fun x hx => by
    simp at hx
    rcases hx with hx | hx
    · exact h.small x hx
    · omega
  have hsort : (cs ++ [c]).Pairwise (· < ·) := by
    rw [List.pairwise_append]
    refine ⟨h.sorted, by simp, fun a ha b hb => ?_⟩
    simp at hb
    have := h.up a ha
    omega
  show _ ∧ _
  rw [← lab_snoc]
  exact ⟨lab_lt _ hall, by rw [print_lab hsort hall (by simp), dots_pre, h.text, h4]⟩
theorem PInv.go (h : PInv S cs s least) (hle : lead s = (c, n)) (h0 : n ≠ 0) (hc : least ≤ c) (hd : s[n]? = some 46) : PInv S (cs ++ [c]) (s.drop (n + 1)) (c + 1) := by
  obtain ⟨h1, h2, h3, r, h4⟩ := lead_yes hle h0
  have hr : r = 46 :: s.drop (n + 1) := by
    rw [h4, h3, List.getElem?_append_right (Nat.le_refl _), Nat.sub_self] at hd
    cases r with
    | nil => simp at hd
    | cons b t =>
      simp at hd
      subst hd
      rw [h4, h3]
      simp [List.drop_append]
  rw [hr] at h4
  generalize s.drop (n + 1) = s' at *
  refine ⟨?_, ?_, ?_, ?_, ?_, ?_⟩
  · rw [pre_snoc, h.text, h4]; simp
  · rw [List.pairwise_append]
    refine ⟨h.sorted, by simp, fun a ha b hb => ?_⟩
    simp at hb
    have := h.up a ha
    omega
  · intro x hx
    simp at hx
    rcases hx with hx | hx
    · exact h.small x hx
    · omega
  · intro x hx
    simp at hx
    rcases hx with hx | hx
    · have := h.up x hx; omega
    · omega
  · intro x hx
    have := hx c (by simp)
    omega
  · intro ds hds hne hS
    obtain ⟨ds', hne', e, hd'⟩ := h.back ds hds hne hS
    obtain ⟨d, t, rfl⟩ := List.exists_cons_of_ne_nil hne'
    have hd64 : d < 64 := hds d (by rw [e]; simp)
    have hl := dots_lead (cs := t) hd64
    rw [hd', hle] at hl
    injection hl with hl1 hl2
    subst hl1
    rw [dots_cons, h4] at hd'
    have ht := List.append_cancel_left hd'
    by_cases h0' : t = []
    · rw [if_pos h0'] at ht; cases ht
    · rw [if_neg h0'] at ht
      injection ht with _ ht
      exact ⟨t, h0', by rw [e]; simp, ht⟩
end
theorem told_unique {S : List UInt8} {r q : Option Nat} (h1 : Told S r) (h2 : Told S q) : r = q := by
  cases r with
  | none =>
    cases q with
    | none => rfl
    | some l => exact absurd h2.2 (h1 l h2.1)
  | some l =>
    cases q with
    | none => exact absurd h1.2 (h2 l h1.1)
    | some m =>
      have e : printN l = printN m := h1.2.trans h2.2.symm
      congr 1
      exact print_inj h1.1 h2.1 e
end Go.Proofs.Ytoodneheadknoaa

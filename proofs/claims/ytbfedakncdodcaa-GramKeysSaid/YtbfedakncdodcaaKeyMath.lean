/-
  Keys and how they are written, as plain lists: layer 10.
-/
import Derived.Test.YtbfedakncdodcaaUtfSigns
namespace Go.Proofs.Ytbfedakncdodcaa

/-- which numbers are keys -/
def keyK (r : Int) : Prop := (1 ≤ r ∧ r ≤ 27) ∨ (32 ≤ r ∧ r ≠ 127 ∧ r ≤ 1114111 ∧ (r < 55296 ∨ 57343 < r))
instance (r : Int) : Decidable (keyK r) := by unfold keyK; infer_instance
/-- a key, as it is written -/
def writK (r : Nat) : List UInt8 :=
  if r = 27 then [60, 69, 115, 99, 62] else if r = 13 then [60, 67, 82, 62] else if r = 8 then [60, 66, 83, 62] else if r = 9 then [60, 84, 97, 98, 62] else if r = 60 then [60, 108, 116, 62]
  else if r < 32 then [60, 67, 45, byteOf (96 + r), 62] else enc r
/-- the keys that are written with an angle -/
def angK (r : Nat) : Bool := decide ((1 ≤ r ∧ r ≤ 27) ∨ r = 60)
theorem key_kinds {r : Nat} (h : keyK r) : angK r = true ∨ (angK r = false ∧ 32 ≤ r ∧ r ≠ 60 ∧ may r ∧ writK r = enc r) := by
  by_cases ha : angK r = true
  · exact .inl ha
  · right
    have ha' : ¬ ((1 ≤ r ∧ r ≤ 27) ∨ r = 60) := fun e => ha (decide_eq_true e)
    have h32 : 32 ≤ r := by unfold keyK at h; omega
    refine ⟨by simpa using ha, h32, by omega, ?_, ?_⟩
    · unfold may; unfold keyK at h; omega
    · unfold writK
      rw [if_neg (by omega), if_neg (by omega), if_neg (by omega), if_neg (by omega), if_neg (by omega), if_neg (by omega)]
theorem ang_key {r : Nat} (h : angK r = true) : keyK r := by
  have := of_decide_eq_true h
  unfold keyK; omega
theorem ang_lt {r : Nat} (h : angK r = true) : r < 61 := by
  have := of_decide_eq_true h
  omega
theorem ang_head : ∀ r : Fin 61, angK r.1 = true → (writK r.1).head? = some 60 := by decide +kernel
/-- no word begins another one -/
theorem ang_free : ∀ r s : Fin 61, angK r.1 = true → angK s.1 = true → (writK r.1).isPrefixOf (writK s.1) = true → r = s := by decide +kernel
theorem enc_head {r : Nat} (h : r ≠ 60) (hr : may r) : (enc r).head? ≠ some 60 := by
  unfold enc
  unfold may at hr
  split
  · intro e
    simp at e
    have : (byteOf r).toNat = 60 := by rw [e]; rfl
    rw [byteOf_nat (by omega)] at this
    exact h this
  · split
    · intro e
      simp at e
      have : (byteOf (0xC0 + r / 64)).toNat = 60 := by rw [e]; rfl
      rw [byteOf_nat (by omega)] at this
      omega
    · split
      · intro e
        simp at e
        have : (byteOf (0xE0 + r / 4096)).toNat = 60 := by rw [e]; rfl
        rw [byteOf_nat (by omega)] at this
        omega
      · intro e
        simp at e
        have : (byteOf (0xF0 + r / 262144)).toNat = 60 := by rw [e]; rfl
        rw [byteOf_nat (by omega)] at this
        omega
theorem writK_len (r : Nat) : 1 ≤ (writK r).length ∧ (writK r).length ≤ 5 := by
  unfold writK
  have := enc_len r
  repeat' split
  all_goals first | exact ⟨this.1, by omega⟩ | simp
theorem pre_split {a b t : List UInt8} (h : a <+: b ++ t) : a <+: b ∨ b <+: a := by
  rcases Nat.le_total a.length b.length with hl | hl
  · exact .inl (List.prefix_of_prefix_length_le h (List.prefix_append b t) hl)
  · exact .inr (List.prefix_of_prefix_length_le (List.prefix_append b t) h hl)
/-- what begins with an angle's word begins with no other one -/
theorem ang_only {r s : Nat} (hr : angK r = true) (hs : angK s = true) {t : List UInt8} (h : writK r <+: writK s ++ t) : r = s := by
  have fr := ang_free ⟨r, ang_lt hr⟩ ⟨s, ang_lt hs⟩ hr hs
  have fs := ang_free ⟨s, ang_lt hs⟩ ⟨r, ang_lt hr⟩ hs hr
  rcases pre_split h with h | h
  · exact congrArg Fin.val (fr (List.isPrefixOf_iff_prefix.2 h))
  · exact (congrArg Fin.val (fs (List.isPrefixOf_iff_prefix.2 h))).symm
/-- the key with which bytes begin -/
def oneK (S : List UInt8) : Option Nat :=
  match ((List.range 61).filter fun r => angK r && (writK r).isPrefixOf S).head? with
  | some r => some r
  | none => if S = [] ∨ S.head? = some 60 ∨ broken (dec S) = true ∨ ¬ keyK (dec S).1 ∨ (dec S).1 < 32 then none else some (dec S).1
theorem ang_found {S : List UInt8} {r : Nat} (h : ((List.range 61).filter fun r => angK r && (writK r).isPrefixOf S).head? = some r) : angK r = true ∧ writK r <+: S := by
  have := List.mem_of_head? h
  rw [List.mem_filter] at this
  have h2 := this.2
  rw [Bool.and_eq_true] at h2
  exact ⟨h2.1, List.isPrefixOf_iff_prefix.1 h2.2⟩
theorem ang_none {S : List UInt8} (h : ((List.range 61).filter fun r => angK r && (writK r).isPrefixOf S).head? = none) {r : Nat} (hr : angK r = true) : ¬ writK r <+: S := by
  intro hp
  have hm : r ∈ (List.range 61).filter fun r => angK r && (writK r).isPrefixOf S := by
    rw [List.mem_filter, Bool.and_eq_true]
    exact ⟨List.mem_range.2 (ang_lt hr), hr, List.isPrefixOf_iff_prefix.2 hp⟩
  rw [List.head?_eq_none_iff] at h
  rw [h] at hm
  cases hm
/-- a key is found where its word stands -/
theorem oneK_writ {r : Nat} (h : keyK r) (t : List UInt8) : oneK (writK r ++ t) = some r := by
  unfold oneK
  rcases key_kinds h with ha | ⟨ha, h32, h60, hm, hw⟩
  · rcases hq : ((List.range 61).filter fun x => angK x && (writK x).isPrefixOf (writK r ++ t)).head? with _ | s
    · exact absurd (List.prefix_append _ _) (ang_none hq ha)
    · obtain ⟨h1, h2⟩ := ang_found hq
      exact congrArg some (ang_only h1 ha h2)
  · have hne : enc r ≠ [] := by intro e; have := enc_len r; rw [e] at this; simp at this
    have hd : (enc r ++ t).head? = (enc r).head? := by
      obtain ⟨a, b, e⟩ := List.exists_cons_of_ne_nil hne
      rw [e]; rfl
    rcases hq : ((List.range 61).filter fun x => angK x && (writK x).isPrefixOf (writK r ++ t)).head? with _ | s
    · dsimp only
      rw [hw, dec_enc r hm t, if_neg]
      rintro (e | e | e | e | e)
      · simp [hne] at e
      · rw [hd] at e; exact enc_head h60 hm e
      · have := of_decide_eq_true e
        dsimp only at this
        rw [this.1] at this
        exact absurd this.2 (by decide)
      · exact e h
      · dsimp only at e; omega
    · exfalso
      obtain ⟨h1, h2⟩ := ang_found hq
      have hh := ang_head ⟨s, ang_lt h1⟩ h1
      dsimp only at hh
      obtain ⟨u, hu⟩ := h2
      have : (writK r ++ t).head? = some 60 := by
        rw [← hu]
        rcases hws : writK s with _ | ⟨a, b⟩
        · rw [hws] at hh; cases hh
        · rw [hws] at hh; simpa using hh
      rw [hw, hd] at this
      exact enc_head h60 hm this
/-- .. and what is found stands there -/
theorem oneK_some {S : List UInt8} {r : Nat} (h : oneK S = some r) : keyK r ∧ S = writK r ++ S.drop (writK r).length := by
  unfold oneK at h
  rcases hq : ((List.range 61).filter fun x => angK x && (writK x).isPrefixOf S).head? with _ | s
  · rw [hq] at h
    dsimp only at h
    split at h
    · cases h
    · next hc =>
      injection h with h
      subst h
      have hS : S ≠ [] := fun e => hc (.inl e)
      have hb : broken (dec S) = false := by
        rcases hb : broken (dec S) with _ | _
        · rfl
        · exact absurd (.inr (.inr (.inl hb))) hc
      have hk : keyK (dec S).1 := by
        by_cases hk : keyK (dec S).1
        · exact hk
        · exact absurd (.inr (.inr (.inr (.inl hk)))) hc
      have h32 : ¬ (dec S).1 < 32 := fun e => hc (.inr (.inr (.inr (.inr e))))
      obtain ⟨w1, w2, w3⟩ := dec_whole hS hb
      refine ⟨hk, ?_⟩
      rcases key_kinds hk with ha | ⟨ha, _, _, _, hw⟩
      · have := of_decide_eq_true ha
        have h60 : (dec S).1 = 60 := by omega
        exfalso
        have he : enc (dec S).1 = [60] := by rw [h60]; rfl
        rw [w3] at he
        obtain ⟨a, b, e⟩ := List.exists_cons_of_ne_nil hS
        have : S.head? = some 60 := by
          rw [e] at he ⊢
          rcases hd2 : (dec (a :: b)).2 with _ | n
          · rw [hd2] at he; simp at he
          · rw [hd2] at he; simp at he; simp [he.1]
        exact hc (.inr (.inl this))
      · rw [hw, w3, List.length_take, Nat.min_eq_left w2, List.take_append_drop]
  · rw [hq] at h
    injection h with h
    subst h
    obtain ⟨h1, h2⟩ := ang_found hq
    refine ⟨ang_key h1, ?_⟩
    obtain ⟨u, rfl⟩ := h2
    rw [List.drop_left]
/-- the keys of bytes -/
def keysF : Nat → List UInt8 → Option (List Nat)
  | _, [] => some []
  | 0, _ :: _ => none
  | n + 1, a :: b => match oneK (a :: b) with
    | none => none
    | some r => (keysF n ((a :: b).drop (writK r).length)).map (r :: ·)
def keysK (S : List UInt8) : Option (List Nat) := keysF S.length S
def wordsK (l : List Nat) : List UInt8 := l.flatMap writK
theorem keysF_words : ∀ (l : List Nat), (∀ r ∈ l, keyK r) → ∀ n, (wordsK l).length ≤ n → keysF n (wordsK l) = some l := by
  intro l
  induction l with
  | nil => intro _ n _; cases n <;> rfl
  | cons r l ih =>
    intro hl n hn
    have hlen := writK_len r
    have e : wordsK (r :: l) = writK r ++ wordsK l := by simp [wordsK]
    rw [e] at hn ⊢
    rw [List.length_append] at hn
    obtain ⟨a, b, ew⟩ := List.exists_cons_of_ne_nil (show writK r ≠ [] by intro e; rw [e] at hlen; simp at hlen)
    obtain ⟨m, rfl⟩ : ∃ m, n = m + 1 := ⟨n - 1, by omega⟩
    have h1 := oneK_writ (hl r (List.mem_cons_self ..)) (wordsK l)
    have hi := ih (fun x hx => hl x (List.mem_cons_of_mem _ hx)) m (by omega)
    have hdr : (a :: (b ++ wordsK l)).drop (writK r).length = wordsK l := by
      rw [show a :: (b ++ wordsK l) = writK r ++ wordsK l by rw [ew]; rfl]; exact List.drop_left
    rw [ew, List.cons_append] at h1 ⊢
    unfold keysF
    rw [h1]
    dsimp only
    rw [hdr, hi]
    rfl
theorem keysK_words {l : List Nat} (h : ∀ r ∈ l, keyK r) : keysK (wordsK l) = some l := keysF_words l h _ (Nat.le_refl _)
theorem keysF_some : ∀ (n : Nat) (S : List UInt8) (l : List Nat), keysF n S = some l → (∀ r ∈ l, keyK r) ∧ S = wordsK l := by
  intro n
  induction n with
  | zero =>
    intro S l h
    cases S with
    | nil => unfold keysF at h; injection h with h; subst h; exact ⟨fun r hr => by simp at hr, rfl⟩
    | cons a b => unfold keysF at h; cases h
  | succ n ih =>
    intro S l h
    cases S with
    | nil => unfold keysF at h; injection h with h; subst h; exact ⟨fun r hr => by simp at hr, rfl⟩
    | cons a b =>
      unfold keysF at h
      rcases ho : oneK (a :: b) with _ | r
      · rw [ho] at h; cases h
      · rw [ho] at h
        dsimp only at h
        obtain ⟨m, hm, rfl⟩ := Option.map_eq_some_iff.1 h
        obtain ⟨h1, h2⟩ := ih _ _ hm
        obtain ⟨k1, k2⟩ := oneK_some ho
        refine ⟨fun x hx => ?_, ?_⟩
        · rcases List.mem_cons.1 hx with rfl | hx
          · exact k1
          · exact h1 x hx
        · rw [k2, h2]
          simp [wordsK]
theorem keysK_some {S : List UInt8} {l : List Nat} (h : keysK S = some l) : (∀ r ∈ l, keyK r) ∧ S = wordsK l := keysF_some _ _ _ h
/-- one key, and the keys behind it -/
theorem keysK_none {S : List UInt8} (hS : S ≠ []) (h : oneK S = none) : keysK S = none := by
  obtain ⟨a, b, rfl⟩ := List.exists_cons_of_ne_nil hS
  unfold keysK
  rw [List.length_cons]
  unfold keysF
  rw [h]
theorem keysK_step {S : List UInt8} {r : Nat} (h : oneK S = some r) : keysK S = (keysK (S.drop (writK r).length)).map (r :: ·) := by
  obtain ⟨k1, k2⟩ := oneK_some h
  rcases hq : keysK (S.drop (writK r).length) with _ | m
  · rcases hs : keysK S with _ | l
    · rfl
    · exfalso
      obtain ⟨h1, h2⟩ := keysK_some hs
      cases l with
      | nil =>
        have := writK_len r
        rw [h2] at k2
        have := congrArg List.length k2
        simp [wordsK] at this
        omega
      | cons x l =>
        have e : wordsK (x :: l) = writK x ++ wordsK l := by simp [wordsK]
        rw [h2, e, oneK_writ (h1 x (List.mem_cons_self ..))] at h
        injection h with h
        subst h
        rw [h2, e, List.drop_left, keysK_words (fun y hy => h1 y (List.mem_cons_of_mem _ hy))] at hq
        cases hq
  · obtain ⟨h1, h2⟩ := keysK_some hq
    have e : S = wordsK (r :: m) := by rw [k2, h2]; simp [wordsK]
    rw [e, keysK_words (fun y hy => by rcases List.mem_cons.1 hy with rfl | hy; exact k1; exact h1 y hy)]
    rfl
theorem keysK_nil : keysK [] = some [] := rfl

/-! What is printed, what is read. -/
def printA (zs : List Int) : List UInt8 × Nat := if zs.length ≤ 256 then (if ∀ z ∈ zs, keyK z then (wordsK (zs.map Int.toNat), 0) else ([], 2)) else ([], 3)
def parseA (S : List UInt8) : List Nat × Nat :=
  match keysK S with
  | none => ([], 5)
  | some l => if l.length ≤ 256 then (l, 0) else ([], 3)
theorem printA_ok {zs : List Int} (h : (printA zs).2 = 0) : zs.length ≤ 256 ∧ (∀ z ∈ zs, keyK z) ∧ printA zs = (wordsK (zs.map Int.toNat), 0) := by
  unfold printA at h ⊢
  split at h
  · next h1 =>
    rw [if_pos h1]
    split at h
    · next h2 => exact ⟨h1, h2, if_pos h2⟩
    · cases h
  · cases h
theorem nat_keys {zs : List Int} (h : ∀ z ∈ zs, keyK z) : (∀ r ∈ zs.map Int.toNat, keyK r) ∧ (zs.map Int.toNat).map (fun r : Nat => (r : Int)) = zs := by
  have hn : ∀ z ∈ zs, ((z.toNat : Nat) : Int) = z := fun z hz => by have := h z hz; unfold keyK at this; omega
  refine ⟨fun r hr => ?_, ?_⟩
  · obtain ⟨z, hz, rfl⟩ := List.mem_map.1 hr
    rw [hn z hz]; exact h z hz
  · rw [List.map_map]
    conv => rhs; rw [← List.map_id zs]
    exact List.map_congr_left fun z hz => hn z hz
theorem parse_print {zs : List Int} (h : (printA zs).2 = 0) : parseA (printA zs).1 = (zs.map Int.toNat, 0) := by
  obtain ⟨h1, h2, h3⟩ := printA_ok h
  rw [h3]
  unfold parseA
  rw [keysK_words (nat_keys h2).1]
  dsimp only
  rw [if_pos (by rw [List.length_map]; exact h1)]
theorem parseA_ok {S : List UInt8} (h : (parseA S).2 = 0) : ∃ l, parseA S = (l, 0) ∧ l.length ≤ 256 ∧ (∀ r ∈ l, keyK (r : Nat)) ∧ S = wordsK l := by
  unfold parseA at h ⊢
  rcases hk : keysK S with _ | l
  · rw [hk] at h; cases h
  · rw [hk] at h
    dsimp only at h ⊢
    split at h
    · next h1 => exact ⟨l, if_pos h1, h1, keysK_some hk⟩
    · cases h
theorem print_nat {l : List Nat} (h1 : l.length ≤ 256) (h2 : ∀ r ∈ l, keyK (r : Nat)) : printA (l.map fun r : Nat => (r : Int)) = (wordsK l, 0) := by
  unfold printA
  rw [if_pos (by rw [List.length_map]; exact h1), if_pos, List.map_map]
  · congr 2
    conv => rhs; rw [← List.map_id l]
    exact List.map_congr_left fun z _ => Int.toNat_natCast z
  · intro z hz
    obtain ⟨r, hr, rfl⟩ := List.mem_map.1 hz
    exact h2 r hr
theorem print_parse {S : List UInt8} (h : (parseA S).2 = 0) : printA ((parseA S).1.map fun r : Nat => (r : Int)) = (S, 0) := by
  obtain ⟨l, e, h1, h2, h3⟩ := parseA_ok h
  rw [e, h3]
  exact print_nat h1 h2
theorem print_both {a b : List Int} (ha : (printA a).2 = 0) (hb : (printA b).2 = 0) : ((printA (a ++ b)).2 = 0 → printA (a ++ b) = ((printA a).1 ++ (printA b).1, 0)) ∧ ((printA (a ++ b)).2 ≠ 0 → 256 < (a ++ b).length) := by
  obtain ⟨a1, a2, a3⟩ := printA_ok ha
  obtain ⟨b1, b2, b3⟩ := printA_ok hb
  have hall : ∀ z ∈ a ++ b, keyK z := fun z hz => by
    rcases List.mem_append.1 hz with hz | hz
    · exact a2 z hz
    · exact b2 z hz
  constructor
  · intro h
    obtain ⟨_, _, h3⟩ := printA_ok h
    rw [h3, a3, b3]
    simp [wordsK]
  · intro h
    unfold printA at h
    by_cases hl : (a ++ b).length ≤ 256
    · rw [if_pos hl, if_pos hall] at h; exact absurd rfl h
    · omega
end Go.Proofs.Ytbfedakncdodcaa

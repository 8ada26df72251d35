/-
  Merged: UtfRange, UtfText, UtfWhich, UtfBack.
-/
import Derived.Test.YtgmeamefbfgbgaaDoorM02u
/-
  A range over a string, step by step, in whatever world: the iterator is a block that holds the text and a place.
-/
namespace Go.Proofs.YtgmeamefbfgbgaaDoor
open Go.RowKit

def Iter (w : World) (g : Nat) (S : List UInt8) (pos : Nat) : Prop := w.heap[g]? = some (.stringIter ⟨S.toArray⟩ pos)
theorem Iter.lt {w : World} {g : Nat} {S : List UInt8} {pos : Nat} (h : Iter w g S pos) : g < w.heap.size := by
  rcases Nat.lt_or_ge g w.heap.size with hlt | hge
  · exact hlt
  · unfold Iter at h; rw [Array.getElem?_eq_none hge] at h; cases h
theorem Iter.below {w w' : World} {g B : Nat} {S : List UInt8} {pos : Nat} (h : Iter w g S pos) (hb : Below B w w') (hg : g < B) : Iter w' g S pos := (hb.block g hg).trans h
theorem Iter.grown {w w' : World} {g : Nat} {row : Option Nat} {S : List UInt8} {pos : Nat} (h : Iter w g S pos) (hb : w.grownBy w' row) (hne : row ≠ some g) : Iter w' g S pos :=
  (hb.block g h.lt (fun e => hne e.symm)).trans h
theorem Iter.far {w w' : World} {g : Nat} {S : List UInt8} {pos : Nat} (h : Iter w g S pos) (hb : w'.heap[g]? = w.heap[g]?) : Iter w' g S pos := hb.trans h
/-- a row of cells is no iterator -/
theorem Iter.not_row {w : World} {g : Nat} {S : List UInt8} {pos : Nat} (h : Iter w g S pos) {base size n : Nat} {e : TypeId} {v : Value} {xs : List Value} (hr : w.ownsRow base e size v n xs) : v.ownBlock ≠ some g := by
  rcases hr.2 with ⟨rfl, _⟩ | ⟨b, cap, cur, rfl, _, hgb, _⟩
  · simp [Value.ownBlock]
  · intro e'
    obtain rfl : b = g := by simpa [Value.ownBlock] using e'
    have := (show w.heap[b]? = _ from h).symm.trans hgb
    simp at this

section
variable {P : Program}
theorem at_next {ops : Array Oper} {rest : List Oper} {a : Act} {Q : Exit → Act → World → Prop} {w : World} {d : Option Nat} {ty : TypeId} {pos : String} {after : Array Edge} {g : Option (Nat × Bool)} (x : Operand) (b : Bool)
    (h : wpList P ops Q (⟨d, .next x b, ty, pos, after, g⟩ :: rest) a w) : wpList P ops Q (⟨d, .next x b, ty, pos, after, g⟩ :: rest) a w := h
theorem at_range {ops : Array Oper} {rest : List Oper} {a : Act} {Q : Exit → Act → World → Prop} {w : World} {d : Option Nat} {ty : TypeId} {pos : String} {after : Array Edge} {g : Option (Nat × Bool)} (T : TypeId) (x : Operand)
    (h : wpList P ops Q (⟨d, .range T x, ty, pos, after, g⟩ :: rest) a w) : wpList P ops Q (⟨d, .range T x, ty, pos, after, g⟩ :: rest) a w := h

theorem wpList_rangeStr {ops : Array Oper} {rest : List Oper} {o : Oper} {a : Act} {Q : Exit → Act → World → Prop} {w : World} (hgd : o.guard = none) (T : TypeId) (x : Operand) (ho : o.op = .range T x)
    (hT : P.underlying T = some .string) (S : List UInt8) (hx : a.eval x = .string ⟨S.toArray⟩)
    (h : ∀ w' g, w.heap.size ≤ g → Iter w' g S 0 → Below w.heap.size w w' → wpList P ops Q rest (a.put o.dst (.pointer (some ⟨g, 0, none⟩))) w') : wpList P ops Q (o :: rest) a w := by
  refine wpList_plain hgd fun K hK => ?_
  have hk := hK _ _ (h (w.iter ⟨S.toArray⟩ 0) w.heap.size (Nat.le_refl _) (World.iter_heap _ _ _) ((Below.refl _ _).alloc (Nat.le_refl _) _))
  unfold Oper.wp execOp
  simp only [ho, hx, run_range_string w T ⟨S.toArray⟩ hT, Sem.run_bind, Sem.run_pure, Result.andThen_ok]
  exact hk

theorem run_next_iter (w : World) (g : Nat) (S : List UInt8) (pos : Nat) (ty : TypeId) (hit : Iter w g S pos) (h : pos < S.length) :
    (Instr.next (.pointer (some ⟨g, 0, none⟩)) true ty).run P w =
      .ok (.tuple #[.bool true, .int .i64 pos, .int .i32 ((dec (S.drop pos)).1 : Nat)]) { w with heap := w.heap.setIfInBounds g (.stringIter ⟨S.toArray⟩ (pos + (dec (S.drop pos)).2)) } := by
  have hs : pos < ({ data := S.toArray } : ByteArray).size := h
  unfold Iter at hit
  rw [← decode_drop S pos]
  simp only [Instr.next, getObj, setObj, Sem.run_bind, Sem.run, hit, Result.andThen, hs, if_true]
  simp [goInt]
theorem run_next_iter_end (w : World) (g : Nat) (S : List UInt8) (pos : Nat) (ty : TypeId) (hit : Iter w g S pos) (h : ¬ pos < S.length) :
    (Instr.next (.pointer (some ⟨g, 0, none⟩)) true ty).run P w = .ok (.tuple #[.bool false]) w := by
  have hs : ¬ pos < ({ data := S.toArray } : ByteArray).size := h
  unfold Iter at hit
  simp [Instr.next, getObj, Sem.run, hit, hs]

theorem wpList_nextStr {ops : Array Oper} {rest : List Oper} {o : Oper} {a : Act} {Q : Exit → Act → World → Prop} {w : World} (hgd : o.guard = none) (x : Operand) (ho : o.op = .next x true)
    (g : Nat) (hx : a.eval x = .pointer (some ⟨g, 0, none⟩)) (S : List UInt8) (pos : Nat) (hit : Iter w g S pos) (hlt : pos < S.length)
    (h : ∀ w', Iter w' g S (pos + (dec (S.drop pos)).2) → w.grownBy w' (some g) → wpList P ops Q rest (a.put o.dst (.tuple #[.bool true, .int .i64 pos, .int .i32 ((dec (S.drop pos)).1 : Nat)])) w') : wpList P ops Q (o :: rest) a w := by
  refine wpList_plain hgd fun K hK => ?_
  have hk := hK _ _ (h { w with heap := w.heap.setIfInBounds g (.stringIter ⟨S.toArray⟩ (pos + (dec (S.drop pos)).2)) }
    (by unfold Iter; simp [hit.lt]) ⟨rfl, rfl, rfl, by simp, fun k _ hk => by
      have hne : g ≠ k := fun e => hk (by rw [e])
      simp [hne]⟩)
  unfold Oper.wp execOp
  simp only [ho, hx, run_next_iter w g S pos _ hit hlt, Sem.run_bind, Sem.run_pure, Result.andThen_ok]
  exact hk
theorem wpList_nextEnd {ops : Array Oper} {rest : List Oper} {o : Oper} {a : Act} {Q : Exit → Act → World → Prop} {w : World} (hgd : o.guard = none) (x : Operand) (ho : o.op = .next x true)
    (g : Nat) (hx : a.eval x = .pointer (some ⟨g, 0, none⟩)) (S : List UInt8) (pos : Nat) (hit : Iter w g S pos) (hlt : ¬ pos < S.length)
    (h : wpList P ops Q rest (a.put o.dst (.tuple #[.bool false])) w) : wpList P ops Q (o :: rest) a w := by
  refine wpList_plain hgd fun K hK => ?_
  have hk := hK _ _ h
  unfold Oper.wp execOp
  simp only [ho, hx, run_next_iter_end w g S pos _ hit hlt, Sem.run_bind, Sem.run_pure, Result.andThen_ok]
  exact hk
end
end Go.Proofs.YtgmeamefbfgbgaaDoor

/-
  string(r), string([]rune) and []rune(s), by the plain functions on lists.
-/
namespace Go.Proofs.YtgmeamefbfgbgaaDoor
open Go.RowKit

theorem valid_mayB (r : Int) : Utf8.valid r = mayB r := by
  rw [validRune_eq]
  unfold validRune mayB
  by_cases h : (0 ≤ r ∧ r < 55296) ∨ (57343 < r ∧ r ≤ 1114111)
  · rw [decide_eq_true h]; symm; simp only [Bool.and_eq_true, Bool.or_eq_true, decide_eq_true_eq]; omega
  · rw [decide_eq_false h]; symm; simp only [Bool.and_eq_false_iff, Bool.or_eq_false_iff, decide_eq_false_iff_not]; omega
theorem encode_enc (n : Nat) : (let b (n : Nat) : UInt8 := UInt8.ofNat n
    if n < 0x80 then (⟨#[b n]⟩ : ByteArray)
    else if n < 0x800 then ⟨#[b (0xC0 + n / 64), b (0x80 + n % 64)]⟩
    else if n < 0x10000 then ⟨#[b (0xE0 + n / 4096), b (0x80 + n / 64 % 64), b (0x80 + n % 64)]⟩
    else ⟨#[b (0xF0 + n / 262144), b (0x80 + n / 4096 % 64), b (0x80 + n / 64 % 64), b (0x80 + n % 64)]⟩) = ⟨(enc n).toArray⟩ := by
  unfold enc byteOf
  dsimp only
  split
  · rfl
  · split
    · rfl
    · split <;> rfl
theorem encode_encB (r : Int) : Utf8.encode r = ⟨(encB r).toArray⟩ := by
  unfold Utf8.encode encB
  rw [valid_mayB]
  cases mayB r
  · exact encode_enc 0xFFFD
  · exact encode_enc r.toNat
theorem runesBytes_list (zs : List Int) : runesBytes zs = ⟨(encAll zs).toArray⟩ := by
  have key : ∀ (zs : List Int) (t : List UInt8), zs.foldl (fun r n => r ++ Utf8.encode n) (⟨t.toArray⟩ : ByteArray) = ⟨(t ++ encAll zs).toArray⟩ := by
    intro zs
    induction zs with
    | nil => intro t; simp [encAll]
    | cons z zs ih =>
      intro t
      rw [List.foldl_cons, encode_encB]
      have e : (⟨t.toArray⟩ : ByteArray) ++ (⟨(encB z).toArray⟩ : ByteArray) = ⟨(t ++ encB z).toArray⟩ := by
        apply ByteArray.ext
        simp
      rw [e, ih]
      simp [encAll]
  unfold runesBytes
  exact (key zs []).trans (by rw [List.nil_append])

section
variable {P : Program}
theorem text_of_rune (w : World) (src dst : TypeId) (k : IntKind) (n : Int) (hs : (P.underlying src).isSome = true) (hd : P.underlying dst = some .string) :
    (convert src dst (.int k n)).run P w = .ok (.string ⟨(encB n).toArray⟩) w := by
  rw [run_convert_int_string w src dst k n hs hd, encode_encB]
theorem text_of_runes {w : World} {B c : Nat} {A : Option Addr} {zs : List Int} (src dst e : TypeId) (hs : P.underlying src = some (.slice e)) (he : P.underlying e = some (.int .i32)) (hd : P.underlying dst = some .string)
    (h : Row w B A (zs.map (Value.int .i32))) : (convert src dst (.slice A zs.length c)).run P w = .ok (.string ⟨(encAll zs).toArray⟩) w := by
  rcases A with _ | ad
  · rcases h with h | ⟨ad, h, _⟩
    · have : zs = [] := by simpa using h
      subst this
      rw [run_convert_runes_nil w src dst e _ c hs he hd]; rfl
    · cases h
  · rw [run_convert_runes w src dst e ad zs.length c zs (Nat.le_refl _) hs he hd, List.take_length, runesBytes_list]
    intro j hj
    rcases h with h | ⟨ad', h', _, hc⟩
    · have : zs = [] := by simpa using h
      subst this; simp at hj
    · cases h'
      exact hc j _ (by simp [hj, List.getD])
theorem runesFrom_list (S : List UInt8) : ∀ (f i : Nat) (acc : Array Value), S.length ≤ i + f → i ≤ S.length →
    Conv.runesFrom ⟨S.toArray⟩ f i acc = acc ++ ((chars (S.drop i)).map fun x => Value.int .i32 (x.1 : Nat)).toArray := by
  intro f
  induction f with
  | zero =>
    intro i acc h hi
    rw [List.drop_eq_nil_of_le (by omega), chars_nil]
    simp [Conv.runesFrom]
  | succ f ih =>
    intro i acc h hi
    unfold Conv.runesFrom
    by_cases hlt : i < S.length
    · rw [if_pos (show i < ({ data := S.toArray } : ByteArray).size from hlt)]
      have hne := drop_ne hlt
      have hp := dec_pos (S.drop i)
      have hle := dec_le hne
      rw [List.length_drop] at hle
      dsimp only
      rw [decode_drop, ih _ _ (by omega) (by omega), chars_cons hne, List.drop_drop]
      apply Array.ext'
      simp
    · rw [if_neg (show ¬ i < ({ data := S.toArray } : ByteArray).size from hlt), List.drop_eq_nil_of_le (by omega), chars_nil]
      simp
end
end Go.Proofs.YtgmeamefbfgbgaaDoor

/-
  Which sign a place lies in, by a reading that has come so far.
-/
namespace Go.Proofs.YtgmeamefbfgbgaaDoor
open Go.RowKit

section
variable {S : List UInt8} {done : List (Nat × Nat)} {a : Nat}
theorem Read.take (h : Read S done a) : (chars S).take done.length = done := by rw [h.all]; simp
theorem Read.at_width (h : Read S done a) : width ((chars S).take done.length) = a := by rw [h.take, h.wide]
theorem Read.len_le (h : Read S done a) : done.length ≤ (chars S).length := by rw [h.all]; simp
theorem Read.len_lt (h : Read S done a) (hlt : a < S.length) : done.length < (chars S).length := by
  have := (h.step hlt).len_le
  simp at this; omega
theorem Read.take_succ (h : Read S done a) (hlt : a < S.length) : (chars S).take (done.length + 1) = done ++ [dec (S.drop a)] := by
  have := (h.step hlt).take
  simpa using this
theorem Read.next_width (h : Read S done a) (hlt : a < S.length) : width ((chars S).take (done.length + 1)) = a + (dec (S.drop a)).2 := by
  rw [h.take_succ hlt, (h.step hlt).wide]
theorem Read.getD (h : Read S done a) (hlt : a < S.length) : (chars S).getD done.length (0, 0) = dec (S.drop a) := by
  rw [h.all, chars_cons (drop_ne hlt)]
  simp [List.getD]
theorem Read.ahead (h : Read S done a) {p : Int} (hp : done ≠ [] → (a : Int) ≤ p) : ∀ j, j < done.length → ((width ((chars S).take (j + 1)) : Nat) : Int) ≤ p := by
  intro j hj
  have h1 := width_take_mono (chars S) (show j + 1 ≤ done.length by omega)
  rw [h.at_width] at h1
  have := hp (by intro e; subst e; simp at hj)
  omega
/-- the place lies in the sign that stands next -/
theorem Read.which_here (h : Read S done a) (hlt : a < S.length) {p : Int} (hp : done ≠ [] → (a : Int) ≤ p) (hq : p < ((a + (dec (S.drop a)).2 : Nat) : Int)) : Which (chars S) p done.length :=
  ⟨h.len_le, h.ahead hp, fun _ => by rw [h.next_width hlt]; exact hq⟩
/-- the place lies behind all signs -/
theorem Read.which_end (h : Read S done a) (hge : S.length ≤ a) {p : Int} (hp : done ≠ [] → (a : Int) ≤ p) : Which (chars S) p done.length :=
  ⟨h.len_le, h.ahead hp, fun hl => by have := congrArg List.length (h.end_ hge); omega⟩
theorem which_neg (S : List UInt8) {p : Int} (hp : p < 0) : Which (chars S) p 0 :=
  ⟨Nat.zero_le _, fun j hj => absurd hj (by omega), fun _ => by omega⟩
theorem which_behind (S : List UInt8) {p : Int} (hp : (S.length : Int) ≤ p) : Which (chars S) p (chars S).length :=
  ⟨Nat.le_refl _, fun j _ => by have := width_le_take (chars S) (j + 1); rw [width_chars] at this; omega, fun h => absurd h (by omega)⟩
theorem width_all (S : List UInt8) : width ((chars S).take (chars S).length) = S.length := by rw [List.take_length, width_chars]
/-- the sign of a place, by where it begins: a reading that ends there -/
theorem Which.read {p : Int} {i : Nat} (h : Which (chars S) p i) : Read S ((chars S).take i) (width ((chars S).take i)) := by
  have key : ∀ i, i ≤ (chars S).length → Read S ((chars S).take i) (width ((chars S).take i)) := by
    intro i
    induction i with
    | zero => intro _; simpa [width] using Read.start S
    | succ i ih =>
      intro hi
      have hr := ih (by omega)
      have hl : ((chars S).take i).length = i := by rw [List.length_take]; omega
      have hlt : width ((chars S).take i) < S.length := by
        rcases Nat.lt_or_ge (width ((chars S).take i)) S.length with h | h
        · exact h
        · have := congrArg List.length (hr.end_ h); omega
      have h1 := hr.step hlt
      have h2 := hr.take_succ hlt
      have h3 := hr.next_width hlt
      rw [hl] at h2 h3
      rw [h3, h2]
      exact h1
  exact key i h.le
end
end Go.Proofs.YtgmeamefbfgbgaaDoor

/-
  Signs found from behind: a byte that is no continuation always begins one. No program here.
-/
namespace Go.Proofs.YtgmeamefbfgbgaaDoor
open Go.RowKit

theorem text_tail (s : List UInt8) (k : Nat) : ({ data := s.toArray } : ByteArray).extract k s.length = ⟨(s.drop k).toArray⟩ := by
  apply ByteArray.ext
  rw [ByteArray.data_extract]
  apply Array.ext'
  simp
  exact List.take_of_length_le (by rw [List.length_drop]; omega)

/-- a continuation at the head is one broken byte -/
theorem dec_cont {t : List UInt8} (h : (t.getD 0 0).toNat / 64 = 2) : (dec t).2 = 1 := by
  have e1 : ¬ (t.getD 0 0).toNat < 0x80 := by omega
  have e2 : ((t.getD 0 0).toNat / 32 == 6) = false := by simp only [beq_eq_false_iff_ne]; omega
  have e3 : ((t.getD 0 0).toNat / 16 == 14) = false := by simp only [beq_eq_false_iff_ne]; omega
  have e4 : ((t.getD 0 0).toNat / 8 == 30) = false := by simp only [beq_eq_false_iff_ne]; omega
  simp only [dec, e2, e3, e4, Bool.false_and, if_neg e1]
  rfl
/-- within a whole sign there are continuations alone -/
theorem dec_inner {t : List UInt8} {k : Nat} (h1 : 1 ≤ k) (h2 : k < (dec t).2) : (t.getD k 0).toNat / 64 = 2 := by
  revert h2
  simp only [dec]
  split
  · intro h; simp at h; omega
  · split
    · rename_i h3
      simp only [Bool.and_eq_true, beq_iff_eq, decide_eq_true_iff] at h3
      split
      · intro h; simp at h; obtain rfl : k = 1 := by omega
        exact h3.2.2
      · intro h; simp at h; omega
    · split
      · rename_i h3
        simp only [Bool.and_eq_true, beq_iff_eq, decide_eq_true_iff] at h3
        split
        · intro h; simp at h
          rcases (show k = 1 ∨ k = 2 by omega) with rfl | rfl
          · exact h3.1.2.2
          · exact h3.2.2
        · intro h; simp at h; omega
      · split
        · rename_i h3
          simp only [Bool.and_eq_true, beq_iff_eq, decide_eq_true_iff] at h3
          split
          · intro h; simp at h
            rcases (show k = 1 ∨ k = 2 ∨ k = 3 by omega) with rfl | rfl | rfl
            · exact h3.1.1.2.2
            · exact h3.1.2.2
            · exact h3.2.2
          · intro h; simp at h; omega
        · intro h; simp at h; omega

/-- every place lies in one -/
theorem which_ex (l : List (Nat × Nat)) (p : Int) : ∃ i, Which l p i := by
  have key : ∀ k, k ≤ l.length → (∃ i, Which l p i) ∨ ∀ j, j < k → ((width (l.take (j + 1)) : Nat) : Int) ≤ p := by
    intro k
    induction k with
    | zero => intro _; exact .inr fun j hj => absurd hj (by omega)
    | succ k ih =>
      intro hk
      rcases ih (by omega) with h | h
      · exact .inl h
      · by_cases hp : p < ((width (l.take (k + 1)) : Nat) : Int)
        · exact .inl ⟨k, by omega, h, fun _ => hp⟩
        · refine .inr fun j hj => ?_
          by_cases hjk : j = k
          · subst hjk; omega
          · exact h j (by omega)
  rcases key l.length (Nat.le_refl _) with h | h
  · exact h
  · exact ⟨l.length, Nat.le_refl _, h, fun h0 => absurd h0 (by omega)⟩

/-- the sign that a place lies in: it begins there or before, and has its bytes -/
theorem Which.here_bytes {S : List UInt8} {p i : Nat} (h : Which (chars S) p i) (hp : p < S.length) :
    i < (chars S).length ∧ width ((chars S).take i) ≤ p ∧ p < width ((chars S).take i) + (dec (S.drop (width ((chars S).take i)))).2 := by
  have hr := h.read
  have hle := h.le
  have hlen : ((chars S).take i).length = i := by rw [List.length_take]; omega
  have hap : width ((chars S).take i) ≤ p := by
    rcases Nat.eq_zero_or_pos i with rfl | hi
    · simp [width]
    · have := h.ahead (i - 1) (by omega)
      rw [show i - 1 + 1 = i by omega] at this
      omega
  have hlt : i < (chars S).length := by
    have := hr.len_lt (by omega)
    omega
  refine ⟨hlt, hap, ?_⟩
  have h1 := h.here hlt
  have h2 := hr.next_width (show width ((chars S).take i) < S.length by omega)
  rw [hlen] at h2
  omega
theorem getD_drop (S : List UInt8) (a k : Nat) : (S.drop a).getD k 0 = S.getD (a + k) 0 := by
  rw [List.getD_eq_getElem?_getD, List.getD_eq_getElem?_getD, List.getElem?_drop]
theorem Which.inner {S : List UInt8} {p i : Nat} (h : Which (chars S) p i) (hp : p < S.length) (hin : width ((chars S).take i) < p) : (dec (S.drop p)).2 = 1 := by
  obtain ⟨_, h1, h2⟩ := h.here_bytes hp
  have := dec_inner (t := S.drop (width ((chars S).take i))) (k := p - width ((chars S).take i)) (by omega) (by omega)
  refine dec_cont ?_
  rw [getD_drop] at this ⊢
  rw [show p + 0 = width ((chars S).take i) + (p - width ((chars S).take i)) by omega]
  exact this
/-- a sign stands so far before a place and goes over it, just where the place's own sign begins -/
theorem Which.back {S : List UInt8} {p i b : Nat} (h : Which (chars S) p i) (hp : p < S.length) (h1 : 1 ≤ b) (hb : b ≤ p) :
    b < (dec (S.drop (p - b))).2 ↔ width ((chars S).take i) = p - b := by
  obtain ⟨hi, h2, h3⟩ := h.here_bytes hp
  constructor
  · intro hlt
    rcases Nat.lt_trichotomy (width ((chars S).take i)) (p - b) with hc | hc | hc
    · have := dec_inner (t := S.drop (width ((chars S).take i))) (k := p - b - width ((chars S).take i)) (by omega) (by omega)
      have h4 : (dec (S.drop (p - b))).2 = 1 := dec_cont (by
        rw [getD_drop] at this ⊢
        rw [show p - b + 0 = width ((chars S).take i) + (p - b - width ((chars S).take i)) by omega]
        exact this)
      omega
    · exact hc
    · obtain ⟨j, hj⟩ := which_ex (chars S) ((p - b : Nat) : Int)
      obtain ⟨g1, g2, g3⟩ := hj.here_bytes (by omega)
      rcases Nat.lt_or_ge (width ((chars S).take j)) (p - b) with hd | hd
      · have := hj.inner (by omega) hd
        omega
      · have e : width ((chars S).take j) = p - b := by omega
        have hji : j < i := by
          rcases Nat.lt_or_ge j i with hx | hx
          · exact hx
          · have := width_take_mono (chars S) hx
            omega
        have h5 := width_take_mono (chars S) (show j + 1 ≤ i by omega)
        have h6 := hj.read.next_width (show width ((chars S).take j) < S.length by omega)
        have hlen : ((chars S).take j).length = j := by rw [List.length_take]; omega
        rw [hlen, e] at h6
        omega
  · intro e
    rw [← e]; omega

/-- what a text begins with: nothing, if it is empty -/
def headDec (t : List UInt8) : Nat × Nat := if t = [] then (0, 0) else dec t
theorem headDec_ne {t : List UInt8} (h : t ≠ []) : headDec t = dec t := if_neg h
theorem Which.head {S : List UInt8} {p : Int} {i : Nat} (h : Which (chars S) p i) : (chars S).getD i (0, 0) = headDec (S.drop (width ((chars S).take i))) := by
  have hr := h.read
  have hle := h.le
  have hlen : ((chars S).take i).length = i := by rw [List.length_take]; omega
  by_cases hlt : width ((chars S).take i) < S.length
  · have := hr.getD hlt
    rw [hlen] at this
    rw [this, headDec_ne (drop_ne hlt)]
  · have e := hr.end_ (by omega)
    rw [show S.drop (width ((chars S).take i)) = [] from List.drop_eq_nil_of_le (by omega)]
    have : (chars S).length ≤ i := by have := congrArg List.length e; omega
    simp [headDec, List.getD, List.getElem?_eq_none this]
theorem Which.head_width {S : List UInt8} {p : Int} {i : Nat} (h : Which (chars S) p i) :
    width ((chars S).take (i + 1)) = width ((chars S).take i) + (headDec (S.drop (width ((chars S).take i)))).2 := by
  have hr := h.read
  have hle := h.le
  have hlen : ((chars S).take i).length = i := by rw [List.length_take]; omega
  by_cases hlt : width ((chars S).take i) < S.length
  · have := hr.next_width hlt
    rw [hlen] at this
    rw [this, headDec_ne (drop_ne hlt)]
  · have e := hr.end_ (by omega)
    rw [show S.drop (width ((chars S).take i)) = [] from List.drop_eq_nil_of_le (by omega)]
    have : (chars S).length ≤ i := by have := congrArg List.length e; omega
    rw [List.take_of_length_le (by omega), List.take_of_length_le this]
    simp [headDec]
theorem Which.at_le {S : List UInt8} {p : Int} {i : Nat} (h : Which (chars S) p i) : width ((chars S).take i) ≤ S.length := h.read.le
/-- the place ahead of a sign lies in the one before it -/
theorem Which.before {S : List UInt8} {p : Int} {i j : Nat} (h : Which (chars S) p i) (hj : Which (chars S) (((width ((chars S).take i) : Nat) : Int) - 1) j) : j = i - 1 := by
  have hle := h.le
  refine hj.unique ?_
  rcases Nat.eq_zero_or_pos i with rfl | hi
  · exact ⟨Nat.zero_le _, fun k hk => absurd hk (by omega), fun hl => by
      have : ((width ((chars S).take 0) : Nat) : Int) = 0 := by simp [width]
      omega⟩
  · refine ⟨by omega, fun k hk => ?_, fun _ => ?_⟩
    · have hr := h.read
      have h1 := width_take_mono (chars S) (show k + 1 ≤ i - 1 by omega)
      have hlt : i - 1 < (chars S).length := by omega
      have h2 := width_succ (chars S) (i - 1) hlt
      have h3 := (chars_bound S _ (List.getElem_mem hlt)).2.1
      rw [show i - 1 + 1 = i by omega] at h2
      omega
    · rw [show i - 1 + 1 = i by omega]; omega
end Go.Proofs.YtgmeamefbfgbgaaDoor

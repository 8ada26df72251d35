/-
  string(r), string([]rune) and []rune(s), by the plain functions on lists.
-/
import Derived.Test.YtnkhlallnblfmaaUtfRange
import Derived.Test.YtnkhlallnblfmaaGlyEncode
namespace Go.Proofs.Ytnkhlallnblfmaa
open Go.RowKit

theorem valid_mayB (r : Int) : Utf8.valid r = mayB r := by
  rw [validRune_eq]
  unfold validRune mayB
  by_cases h : (0 ≤ r ∧ r < 55296) ∨ (57343 < r ∧ r ≤ 1114111)
  · rw [decide_eq_true h]; symm; simp only [Bool.and_eq_true, Bool.or_eq_true, decide_eq_true_eq]; omega
  · rw [decide_eq_false h]; symm; simp only [Bool.and_eq_false_iff, Bool.or_eq_false_iff, decide_eq_false_iff_not]; omega
theorem encode_enc (n : Nat) : (let b (n : Nat) : UInt8 := UInt8.ofNat n
    if n < 0x80 then (⟨#[b n]⟩ : ByteArray)
    else if n < 0x800 then ⟨#[b (0xC0 + n / 64), b (0x80 + n % 64)]⟩
    else if n < 0x10000 then ⟨#[b (0xE0 + n / 4096), b (0x80 + n / 64 % 64), b (0x80 + n % 64)]⟩
    else ⟨#[b (0xF0 + n / 262144), b (0x80 + n / 4096 % 64), b (0x80 + n / 64 % 64), b (0x80 + n % 64)]⟩) = ⟨(enc n).toArray⟩ := by
  unfold enc byteOf
  dsimp only
  split
  · rfl
  · split
    · rfl
    · split <;> rfl
theorem encode_encB (r : Int) : Utf8.encode r = ⟨(encB r).toArray⟩ := by
  unfold Utf8.encode encB
  rw [valid_mayB]
  cases mayB r
  · exact encode_enc 0xFFFD
  · exact encode_enc r.toNat
theorem runesBytes_list (zs : List Int) : runesBytes zs = ⟨(encAll zs).toArray⟩ := by
  have key : ∀ (zs : List Int) (t : List UInt8), zs.foldl (fun r n => r ++ Utf8.encode n) (⟨t.toArray⟩ : ByteArray) = ⟨(t ++ encAll zs).toArray⟩ := by
    intro zs
    induction zs with
    | nil => intro t; simp [encAll]
    | cons z zs ih =>
      intro t
      rw [List.foldl_cons, encode_encB]
      have e : (⟨t.toArray⟩ : ByteArray) ++ (⟨(encB z).toArray⟩ : ByteArray) = ⟨(t ++ encB z).toArray⟩ := by
        apply ByteArray.ext
        simp
      rw [e, ih]
      simp [encAll]
  unfold runesBytes
  exact (key zs []).trans (by rw [List.nil_append])

section
variable {P : Program}
theorem text_of_rune (w : World) (src dst : TypeId) (k : IntKind) (n : Int) (hs : (P.underlying src).isSome = true) (hd : P.underlying dst = some .string) :
    (convert src dst (.int k n)).run P w = .ok (.string ⟨(encB n).toArray⟩) w := by
  rw [run_convert_int_string w src dst k n hs hd, encode_encB]
theorem text_of_runes {w : World} {B c : Nat} {A : Option Addr} {zs : List Int} (src dst e : TypeId) (hs : P.underlying src = some (.slice e)) (he : P.underlying e = some (.int .i32)) (hd : P.underlying dst = some .string)
    (h : Row w B A (zs.map (Value.int .i32))) : (convert src dst (.slice A zs.length c)).run P w = .ok (.string ⟨(encAll zs).toArray⟩) w := by
  rcases A with _ | ad
  · rcases h with h | ⟨ad, h, _⟩
    · have : zs = [] := by simpa using h
      subst this
      rw [run_convert_runes_nil w src dst e _ c hs he hd]; rfl
    · cases h
  · rw [run_convert_runes w src dst e ad zs.length c zs (Nat.le_refl _) hs he hd, List.take_length, runesBytes_list]
    intro j hj
    rcases h with h | ⟨ad', h', _, hc⟩
    · have : zs = [] := by simpa using h
      subst this; simp at hj
    · cases h'
      exact hc j _ (by simp [hj, List.getD])
theorem runesFrom_list (S : List UInt8) : ∀ (f i : Nat) (acc : Array Value), S.length ≤ i + f → i ≤ S.length →
    Conv.runesFrom ⟨S.toArray⟩ f i acc = acc ++ ((chars (S.drop i)).map fun x => Value.int .i32 (x.1 : Nat)).toArray := by
  intro f
  induction f with
  | zero =>
    intro i acc h hi
    rw [List.drop_eq_nil_of_le (by omega), chars_nil]
    simp [Conv.runesFrom]
  | succ f ih =>
    intro i acc h hi
    unfold Conv.runesFrom
    by_cases hlt : i < S.length
    · rw [if_pos (show i < ({ data := S.toArray } : ByteArray).size from hlt)]
      have hne := drop_ne hlt
      have hp := dec_pos (S.drop i)
      have hle := dec_le hne
      rw [List.length_drop] at hle
      dsimp only
      rw [decode_drop, ih _ _ (by omega) (by omega), chars_cons hne, List.drop_drop]
      apply Array.ext'
      simp
    · rw [if_neg (show ¬ i < ({ data := S.toArray } : ByteArray).size from hlt), List.drop_eq_nil_of_le (by omega), chars_nil]
      simp
end
end Go.Proofs.Ytnkhlallnblfmaa

/-
  Contracts of the document's own answers, layer 2: Starts, Valid, which, begins, Align, Next, Prev, At.
-/
import Derived.Test.YtckikigjleckeaaGlyList
import Derived.Deep.QuietTactic
import Derived.BigQuiet
namespace Go.Proofs.Ytckikigjleckeaa
open Go.RowKit

theorem add_add' (a : Addr) (i j : Nat) : (a.add i).add j = a.add (i + j) := by
  unfold Addr.add
  by_cases hi : i = 0 <;> by_cases hj : j = 0 <;> simp [hi, hj, Nat.add_assoc]
theorem add_field (a : Addr) (n j : Nat) (hj : 0 < j) : a.add (n + j) = ⟨(a.add n).block, (a.add n).off + j, none⟩ := by
  unfold Addr.add
  by_cases hn : n = 0
  · subst hn; simp; omega
  · simp [hn]; omega
theorem offs_get (a : Nat) (l : List (Nat × Nat)) (k : Nat) (h : k < l.length) : (offs a l)[k]'(by rw [offs_len]; exact h) = (a + width (l.take k), l[k]) := by
  induction l generalizing a k with
  | nil => simp at h
  | cons x l ih =>
    cases k with
    | zero => simp [offs, width]
    | succ k =>
      have := ih (a + x.2) k (by simpa using h)
      simp only [offs, List.getElem_cons_succ, this, List.take_succ_cons, width, List.map_cons, List.sum_cons]
      rw [Nat.add_assoc]
/-- the four cells of the k-th sign -/
theorem sign_cells {w : World} {B a : Nat} {A : Option Addr} {l : List (Nat × Nat)} {k : Nat} (h : Row w B A (flat (offs a l))) (hk : k < l.length) :
    ∃ ad, A = some ad ∧ ad.block < B ∧ w.cell? (ad.add (k * 4)) = some (.int .i64 ((a + width (l.take k) : Nat) : Int)) ∧ w.cell? ⟨(ad.add (k * 4)).block, (ad.add (k * 4)).off + 1, none⟩ = some (.int .i64 (l[k].2 : Int)) ∧
      w.cell? ⟨(ad.add (k * 4)).block, (ad.add (k * 4)).off + 2, none⟩ = some (.int .i64 (l[k].1 : Int)) ∧ w.cell? ⟨(ad.add (k * 4)).block, (ad.add (k * 4)).off + 3, none⟩ = some (.bool (!broken l[k])) := by
  have hk' : k < (offs a l).length := by rw [offs_len]; exact hk
  have g0 := flat_get (offs a l) k 0 hk' (by omega)
  have g1 := flat_get (offs a l) k 1 hk' (by omega)
  have g2 := flat_get (offs a l) k 2 hk' (by omega)
  have g3 := flat_get (offs a l) k 3 hk' (by omega)
  rw [offs_get a l k hk] at g0 g1 g2 g3
  obtain ⟨ad, e, hb, c0⟩ := h.at_ (g0.trans rfl)
  obtain ⟨ad1, e1, _, c1⟩ := h.at_ (g1.trans rfl)
  obtain ⟨ad2, e2, _, c2⟩ := h.at_ (g2.trans rfl)
  obtain ⟨ad3, e3, _, c3⟩ := h.at_ (g3.trans rfl)
  subst e
  injection e1 with e1
  injection e2 with e2
  injection e3 with e3
  subst e1 e2 e3
  rw [add_field _ _ _ (by omega)] at c1 c2 c3
  exact ⟨ad, rfl, hb, c0, c1, c2, c3⟩

theorem elt_int : Elt Try.prog 38 3 (.int .i64 0) 1 8 := ⟨Try.underlying38, by kernel_rfl, rfl, by decide⟩
def intn (n : Nat) : Value := .int .i64 (n : Int)

theorem startsAt_take (a : Nat) (l : List (Nat × Nat)) (k : Nat) (h : k < l.length) : startsAt a (l.take (k + 1)) = startsAt a (l.take k) ++ [a + width (l.take k)] := by
  rw [List.take_succ_eq_append_getElem h, startsAt_append]; rfl

set_option maxHeartbeats 1000000 in
theorem refStarts_any (S : List UInt8) (hs : S.length ≤ 1000000) (w : World) :
    Calls Try.prog 86 #[.string ⟨S.toArray⟩] w fun e w' => ∃ A c, e = .returned (.slice A (startsAt 0 (chars S)).length c) ∧
      w'.ownsRow w.heap.size 3 1 (.slice A (startsAt 0 (chars S)).length c) (startsAt 0 (chars S)).length ((startsAt 0 (chars S)).map intn) ∧ Below w.heap.size w w' := by
  go_enter Try.func86, Try.ntmps86
  go_wp2_with fail
  refine (refSigns_any S hs _).mono ?_
  rintro e w1 ⟨A, c, rfl, hown, hb1⟩
  have hrow := Row.of_own hown
  have hcl := chars_len S
  have z1 := hb1.size
  clear hown
  go_wp2_with fail
  go_loopw [4, 5] (fun v i wr => ∃ k : Nat, k ≤ (chars S).length ∧ i = .int .i64 k ∧ wr.ownsRow w1.heap.size 3 1 v k ((startsAt 0 ((chars S).take k)).map intn) ∧ Below w1.heap.size w1 wr) (fun _ i _ => (chars S).length - (intOf i).toNat)
  case atStart => exact ⟨0, Nat.zero_le _, rfl, World.ownsRow_nil _ _ _ _, Below.refl _ _⟩
  case round =>
    obtain ⟨k, hk, rfl, hown, hb⟩ := hrel
    have z := hb.size
    by_cases hlt : k < (chars S).length
    · obtain ⟨ad, rfl, hbl, c0, c1, c2, c3⟩ := sign_cells (hrow.below hb) hlt
      have HT := Lib.hid (startsAt_take 0 (chars S) k hlt)
      rw [Nat.zero_add] at c0
      obtain ⟨A1, c1', rfl⟩ := own_form hown
      clear c1 c2 c3
      go_wp2_with (at_builtin; refine wpList_push rfl _ _ _ rfl w1.heap.size 3 _ 8 elt_int _ _ _ _ rfl hown (.int .i64 ((width ((chars S).take k) : Nat) : Int)) rfl rfl (by unfold maxLen; omega) (by omega) z ?_; intro v2 w2 hown2 hb2)
      go_roundw
      case rel => exact ⟨k + 1, by omega, by go_num, by rw [HT.out]; simpa [intn] using hown2, hb.trans hb2⟩
      case measure => simp [intOf]; omega
    · obtain rfl : k = (chars S).length := by omega
      rw [List.take_length] at hown
      have HL : Hid ((startsAt 0 (chars S)).length = (chars S).length) := startsAt_len _ _
      obtain ⟨A1, c1', rfl⟩ := own_form hown
      go_wp2
      go_ret
      exact ⟨A1, c1', by rw [HL.out]; rfl, by rw [HL.out]; exact own_base hown z1, hb1.trans (hb.mono z1)⟩
end Go.Proofs.Ytckikigjleckeaa

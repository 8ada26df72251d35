/-
  Contracts of the document's own answers, layer 6: Lines.
-/
import Derived.Test.YtlipkfaofmailaaLinLines
namespace Go.Proofs.Ytlipkfaofmailaa
open Go.RowKit

def strv (l : List UInt8) : Value := .string ⟨l.toArray⟩
theorem elt_str : Elt Try.prog 35 9 (.string ⟨#[]⟩) 1 16 := ⟨Try.underlying35, by kernel_rfl, rfl, by decide⟩
theorem lines_take {S : List UInt8} {n : Nat} (h : n < countL S) : (linesOf S).take (n + 1) = (linesOf S).take n ++ [lineL S n] := by
  have hl : n < (linesOf S).length := by rw [linesOf_count]; exact h
  have := lineL_get h
  rw [List.getElem?_eq_getElem hl] at this
  rw [List.take_succ_eq_append_getElem hl, Option.some.inj this]
theorem text_slice (S : List UInt8) (a b : Nat) (h : a ≤ b) : ({ data := S.toArray } : ByteArray).extract a b = ⟨((S.drop a).take (b - a)).toArray⟩ := by
  have := text_mid S a (b - a)
  rwa [show a + (b - a) = b by omega] at this

set_option maxHeartbeats 2000000 in
theorem refLines_any (S : List UInt8) (hs : S.length ≤ 1000000) (w : World) :
    Calls Try.prog 25 #[.string ⟨S.toArray⟩] w fun e w' => ∃ A c, e = .returned (.slice A (linesOf S).length c) ∧ w'.ownsRow w.heap.size 9 1 (.slice A (linesOf S).length c) (linesOf S).length ((linesOf S).map strv) ∧ Below w.heap.size w w' := by
  have hcl := countL_le S
  have hlen := linesOf_count S
  go_enter Try.func25, Try.ntmps25
  go_wp2_with fail
  go_loopw [3, 4] (fun v n wr => ∃ k : Nat, k ≤ countL S ∧ n = .int .i64 k ∧ wr.ownsRow w.heap.size 9 1 v ((linesOf S).take k).length (((linesOf S).take k).map strv) ∧ Below w.heap.size w wr) (fun _ n _ => countL S - (intOf n).toNat)
  case atStart => exact ⟨0, Nat.zero_le _, rfl, World.ownsRow_nil _ _ _ _, Below.refl _ _⟩
  case round =>
    obtain ⟨k, hk, rfl, hown, hb⟩ := hrel
    have z := hb.size
    obtain ⟨A1, c1, rfl⟩ := own_form hown
    by_cases hlt : k < countL S
    · have hltI : (k : Int) < (countL S : Int) := by omega
      have HBD := Lib.hid (boundsL_nat hlt)
      have HT := Lib.hid (lines_take hlt)
      have hbe := beg_end hlt
      have hel := end_le hlt
      have HSL := Lib.hid (text_slice S (begL S k) (endL S k) hbe)
      have HLL : Hid (lineL S k = (S.drop (begL S k)).take (endL S k - begL S k)) := rfl
      have hfl : ((linesOf S).take k).length = k := by rw [List.length_take]; omega
      have HFL := Lib.hid hfl
      generalize begL S k = F at *
      generalize endL S k = T at *
      have hI1 : (F : Int) ≤ (T : Int) := by omega
      have hI2 : (T : Int) ≤ (S.length : Int) := by omega
      generalize hE : (linesOf S).take k = E at *
      have HEE := Lib.hid hE
      clear hE hlen hfl
      go_wp2_with (first
        | (go_at_call 11; refine (refCount_any S hs _).mono ?_; rintro e w2 ⟨rfl, b2⟩)
        | (go_at_call 15; refine (refBounds_any S hs (k : Int) _).mono ?_; rintro e w3 ⟨rfl, b3⟩; rw [HBD.out])
        | (at_builtin; refine wpList_push rfl _ _ _ rfl w.heap.size 9 _ 16 elt_str _ _ _ _ rfl (own_keep (own_keep hown b2 (Nat.le_refl _)) b3 (Nat.le_refl _)) (.string (({ data := S.toArray } : ByteArray).extract F T)) rfl rfl (by have := HFL.out; unfold maxLen; omega) (by have := HFL.out; omega) (by have := b2.size; have := b3.size; omega) ?_; intro v5 w5 hown5 hb5))
      go_roundw
      case rel => exact ⟨k + 1, by omega, by go_num, by
        have h5 : (.string (({ data := S.toArray } : ByteArray).extract F T) : Value) = strv (lineL S k) := by rw [HLL.out, HSL.out]; rfl
        rw [HT.out, List.length_append, List.map_append, List.map_singleton, ← h5]; exact hown5, hb.trans (((b2.mono z).trans (b3.mono (by have := b2.size; omega))).trans hb5)⟩
      case measure => simp [intOf]; omega
    · obtain rfl : k = countL S := by omega
      have ht : (linesOf S).take (countL S) = linesOf S := by rw [← hlen, List.take_length]
      rw [ht] at hown
      have HN := Lib.hid hlen
      clear ht hlen
      go_wp2_with (go_at_call 11; refine (refCount_any S hs _).mono ?_; rintro e w2 ⟨rfl, b2⟩)
      go_ret
      refine ⟨A1, c1, ?_, own_keep hown b2 (Nat.le_refl _), hb.trans (b2.mono z)⟩
      show Ending.returned (.slice A1 (min (countL S) (linesOf S).length) c1) = _
      rw [Nat.min_eq_right (by have := HN.out; omega)]
end Go.Proofs.Ytlipkfaofmailaa

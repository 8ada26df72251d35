/-
  Contracts of the document's own answers, layer 1: digits, Print.
-/
import Derived.Test.YtoodneheadknoaaLabParsed
import Derived.Test.YtoodneheadknoaaRefBelow
namespace Go.Proofs.Ytoodneheadknoaa
open Go.RowKit

theorem row_new1 (w : World) (t : TypeId) (u : Value) : Row (w.alloc (.cells #[u] t)) (w.heap.size + 1) (some ⟨w.heap.size, 0, none⟩) [u] := by
  right
  refine ⟨_, rfl, by simp, ?_⟩
  intro j x hj
  match j, hj with
  | 0, hj => simp at hj; subst hj; simp [Addr.add]
  | (j + 1), hj => simp at hj
theorem row_new2 (w : World) (t : TypeId) (u v : Value) : Row (w.alloc (.cells #[u, v] t)) (w.heap.size + 1) (some ⟨w.heap.size, 0, none⟩) [u, v] := by
  right
  refine ⟨_, rfl, by simp, ?_⟩
  intro j x hj
  match j, hj with
  | 0, hj => simp at hj; subst hj; simp [Addr.add]
  | 1, hj => simp at hj; subst hj; simp [Addr.add]
  | (j + 2), hj => simp at hj

theorem digits_two (c : Nat) (hc : c < 64) (h10 : 10 ≤ c) (w : World) :
    (convert 52 9 (.slice (some ⟨w.heap.size, 0, none⟩) 2 2)).run Try.prog (w.alloc (.cells #[.int .u8 (48 + (c : Int) / 10), .int .u8 (48 + (c : Int) % 10)] 5)) =
      .ok (.string ⟨(digs c).toArray⟩) (w.alloc (.cells #[.int .u8 (48 + (c : Int) / 10), .int .u8 (48 + (c : Int) % 10)] 5)) := by
  have e : [UInt8.ofNat (48 + c / 10), UInt8.ofNat (48 + c % 10)].map byt = [.int .u8 (48 + (c : Int) / 10), .int .u8 (48 + (c : Int) % 10)] := by
    rw [byt_of (48 + c / 10) (i := 48 + (c : Int) / 10) (by omega) (by omega), byt_of (48 + c % 10) (i := 48 + (c : Int) % 10) (by omega) (by omega)]; rfl
  rw [show digs c = [UInt8.ofNat (48 + c / 10), UInt8.ofNat (48 + c % 10)] from if_pos h10]
  exact str_of_row (B := w.heap.size + 1) (l := [UInt8.ofNat (48 + c / 10), UInt8.ofNat (48 + c % 10)]) 52 9 5 Try.underlying52 Try.underlying5 Try.underlying9 (by rw [e]; exact row_new2 _ _ _ _)
theorem digits_one (c : Nat) (h10 : ¬ 10 ≤ c) (w : World) :
    (convert 52 9 (.slice (some ⟨w.heap.size, 0, none⟩) 1 1)).run Try.prog (w.alloc (.cells #[.int .u8 (48 + (c : Int))] 5)) =
      .ok (.string ⟨(digs c).toArray⟩) (w.alloc (.cells #[.int .u8 (48 + (c : Int))] 5)) := by
  have e : [UInt8.ofNat (48 + c % 10)].map byt = [.int .u8 (48 + (c : Int))] := by
    rw [byt_of (48 + c % 10) (i := 48 + (c : Int)) (by omega) (by omega)]; rfl
  rw [show digs c = [UInt8.ofNat (48 + c % 10)] from if_neg h10]
  exact str_of_row (B := w.heap.size + 1) (l := [UInt8.ofNat (48 + c % 10)]) 52 9 5 Try.underlying52 Try.underlying5 Try.underlying9 (by rw [e]; exact row_new1 _ _ _)

set_option maxHeartbeats 400000 in
theorem refDigits_any (c : Nat) (hc : c < 64) (w : World) :
    Calls Try.prog 35 #[.int .i64 c] w fun e w' => e = .returned (.string ⟨(digs c).toArray⟩) ∧ Below w.heap.size w w' := by
  by_cases h10 : 10 ≤ c
  · have hcv := digits_two c hc h10 w
    go_enter Try.func35, Try.ntmps35
    go_wp2
    go_ret
    exact ⟨rfl, (Below.refl _ _).alloc (Nat.le_refl _) _⟩
  · have hcv := digits_one c h10 w
    go_enter Try.func35, Try.ntmps35
    go_wp2
    go_ret
    exact ⟨rfl, (Below.refl _ _).alloc (Nat.le_refl _) _⟩

theorem cat3 (a b : List UInt8) : Value.string (({ data := a.toArray } : ByteArray) ++ { data := #[46] } ++ { data := b.toArray }) = .string ⟨(a ++ [46] ++ b).toArray⟩ := by
  congr 1

theorem dots_take (cs : List Nat) (k : Nat) (hk : k < cs.length) (h0 : 0 < k) : dots (cs.take (k + 1)) = dots (cs.take k) ++ [46] ++ digs cs[k] := by
  rw [take_snoc cs k hk, dots_snoc]
  unfold dotStep
  have : 0 < (dots (cs.take k)).length := by
    obtain ⟨d, t, e⟩ := List.exists_cons_of_ne_nil (show cs.take k ≠ [] by
      intro h; have := congrArg List.length h; rw [List.length_take, List.length_nil] at this; omega)
    rw [e, dots_cons]
    have := digs_len d
    simp; omega
  rw [if_pos this]
theorem dots_first (cs : List Nat) (h : 0 < cs.length) : dots (cs.take 1) = digs cs[0] := by
  rw [take_snoc cs 0 h, dots_snoc]; simp [dots, dotStep]

set_option maxHeartbeats 1000000 in
theorem refPrint_any (l : Nat) (hl : l < 18446744073709551616) (w : World) :
    Calls Try.prog 29 #[.int .u64 l] w fun e w' => e = .returned (.string ⟨(printN l).toArray⟩) ∧ Below w.heap.size w w' := by
  by_cases h0 : l = 0
  · have HP : Hid (printN l = [45]) := if_pos h0
    have hz : catsTo l 64 = [] := by subst h0; decide
    have hzl : (catsTo l 64).length = 0 := by rw [hz]; rfl
    have HZ := Lib.hid hzl
    clear h0 hz hzl
    go_enter Try.func29, Try.ntmps29
    go_wp2_with (go_at_call 25; refine (refCats_any l hl _).mono ?_; rintro e w1 ⟨A, c, rfl, hown, hbl⟩; rw [HZ.out])
    go_ret
    exact ⟨by rw [HP.out]; rfl, hbl⟩
  · have HP : Hid (printN l = dots (catsTo l 64)) := if_neg h0
    have hne := catsTo_ne hl h0
    have hpos : 0 < (catsTo l 64).length := List.length_pos_iff.2 hne
    have hcl := catsTo_len l 64
    have hbz : (((catsTo l 64).length : Int) == 0) = false := by simp; exact hne
    clear h0
    go_enter Try.func29, Try.ntmps29
    go_wp2_with fail
    refine (refCats_any l hl _).mono ?_
    rintro e w1 ⟨A, c, rfl, hown, hbl⟩
    have hclt := catsTo_lt l 64
    generalize catsTo l 64 = cs at *
    have hrow := Row.of_own hown
    obtain ⟨ad, rfl, hb0, hcell⟩ := hrow.map_at hpos
    have hc64 := hclt cs[0] (List.getElem_mem hpos)
    have HF := Lib.hid (dots_first cs hpos)
    unfold intv at hcell
    clear hown hne
    have hcell0 : w1.cell? ad = some (.int .i64 (cs[0] : Int)) := by simpa [Addr.add] using hcell
    clear hcell
    go_wp2_with fail
    refine (refDigits_any cs[0] hc64 _).mono ?_
    rintro e w2 ⟨rfl, hb2⟩
    have z2 := hb2.size
    go_wp2_with fail
    go_loopw [4, 5] (fun v i wr => ∃ k : Nat, 1 ≤ k ∧ k ≤ cs.length ∧ i = .int .i64 k ∧ v = .string ⟨(dots (cs.take k)).toArray⟩ ∧ Below w1.heap.size w1 wr) (fun _ i _ => cs.length - (intOf i).toNat)
    case atStart => exact ⟨1, by omega, by omega, rfl, by rw [HF.out], hb2⟩
    case round =>
      obtain ⟨k, h1k, hk, rfl, rfl, hb3⟩ := hrel
      have z3 := hb3.size
      clear hb2 z2 hcell0
      by_cases hlt : k < cs.length
      · obtain ⟨ae, hae, hb4, hcell4⟩ := (hrow.below hb3).map_at hlt
        injection hae with hae
        subst hae
        have hck := hclt cs[k] (List.getElem_mem hlt)
        unfold intv at hcell4
        have HT := Lib.hid (dots_take cs k hlt (by omega))
        have hdl := dots_len cs k
        have hgl := digs_len cs[k]
        have hA : ¬ 9223372036854775807 < (dots (cs.take k)).length + 1 := by omega
        have hB : ¬ 9223372036854775807 < (dots (cs.take k)).length + 1 + (digs cs[k]).length := by omega
        go_wp2_with (go_at_call 35; refine (refDigits_any cs[k] hck _).mono ?_; rintro e w5 ⟨rfl, hb5⟩)
        go_roundw
        case rel => exact ⟨k + 1, by omega, by omega, by go_num, by rw [HT.out]; exact cat3 _ _, hb3.trans (hb5.mono z3)⟩
        case measure => simp [intOf]; omega
      · obtain rfl : k = cs.length := by omega
        go_wp2
        go_ret
        exact ⟨by rw [HP.out]; simp, hbl.trans (hb3.mono hbl.size)⟩

end Go.Proofs.Ytoodneheadknoaa

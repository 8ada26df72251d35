/-
  The document's Tell: layer 11.
-/
import Derived.Test.YtbfedakncdodcaaGrRef
import Derived.Test.YtbfedakncdodcaaKeyParse
namespace Go.Proofs.Ytbfedakncdodcaa
open Go.RowKit

/-- the digits that lie before so great a one -/
def digD (n d : Int) : List Int := (if d < 100 ∧ 100 ≤ n then [48 + n / 100 % 10] else []) ++ (if d < 10 ∧ 10 ≤ n then [48 + n / 10 % 10] else []) ++ (if d < 1 ∧ 1 ≤ n then [48 + n % 10] else [])
theorem digD_none (n : Int) : digD n 100 = [] := by unfold digD; simp
theorem digD_all (n : Int) : digD n 0 = digitsG n := by unfold digD digitsG; simp
theorem digD_len (n d : Int) : (digD n d).length ≤ 3 := by
  unfold digD
  rw [List.length_append, List.length_append]
  split <;> split <;> split <;> simp
theorem digD_100 (n : Int) : digD n 10 = digD n 100 ++ (if 100 ≤ n then [48 + n / 100 % 10] else []) := by unfold digD; simp
theorem digD_10 (n : Int) : digD n 1 = digD n 10 ++ (if 10 ≤ n then [48 + n / 10 % 10] else []) := by unfold digD; simp
theorem digD_1 (n : Int) : digD n 0 = digD n 1 ++ (if 1 ≤ n then [48 + n % 10] else []) := by unfold digD; simp

set_option maxHeartbeats 1000000 in
theorem refGDigits_any (n : Int) (hn : 0 ≤ n ∧ n ≤ 999) (w : World) : Calls Try.prog 19 #[.int .i64 n] w fun e w' => ∃ A c, e = .returned (.slice A (digitsG n).length c) ∧ w'.ownsRow w.heap.size 21 1 (.slice A (digitsG n).length c) (digitsG n).length ((digitsG n).map runz) ∧ Below w.heap.size w w' := by
  go_enter Try.func19, Try.ntmps19
  go_wp2_with fail
  go_loopw [3, 4] (fun v i wr => ∃ d : Int, (d = 100 ∨ d = 10 ∨ d = 1 ∨ d = 0) ∧ i = .int .i64 d ∧ wr.ownsRow w.heap.size 21 1 v (digD n d).length ((digD n d).map runz) ∧ Below w.heap.size w wr) (fun _ i _ => (intOf i).toNat)
  case atStart => exact ⟨100, by omega, rfl, by rw [digD_none]; exact World.ownsRow_nil _ _ _ _, Below.refl _ _⟩
  case round =>
    obtain ⟨d, hd, rfl, hown, hb⟩ := hrel
    have z := hb.size
    have hdl := digD_len n d
    obtain ⟨A1, c1, rfl⟩ := own_form hown
    rcases hd with rfl | rfl | rfl | rfl
    · by_cases h : 100 ≤ n
      · have HT := Lib.hid (show digD n 10 = digD n 100 ++ [48 + n / 100 % 10] by rw [digD_100, if_pos h])
        generalize digD n 100 = D at *
        go_wp2_with (at_builtin; refine wpList_push rfl _ _ _ rfl w.heap.size 21 _ 4 elt_rune _ _ _ _ rfl hown (.int .i32 (48 + n / 100 % 10)) rfl rfl (by unfold maxLen; omega) (by omega) z ?_; intro v2 w2 hown2 hb2)
        go_roundw
        case rel => exact ⟨10, by omega, by go_num, by rw [HT.out, List.length_append, List.map_append]; exact hown2, hb.trans hb2⟩
        case measure => simp [intOf]
      · have HT := Lib.hid (show digD n 10 = digD n 100 by rw [digD_100, if_neg h, List.append_nil])
        generalize digD n 100 = D at *
        go_wp2_with fail
        go_roundw
        case rel => exact ⟨10, by omega, by go_num, by rw [HT.out]; exact hown, hb⟩
        case measure => simp [intOf]
    · by_cases h : 10 ≤ n
      · have HT := Lib.hid (show digD n 1 = digD n 10 ++ [48 + n / 10 % 10] by rw [digD_10, if_pos h])
        generalize digD n 10 = D at *
        go_wp2_with (at_builtin; refine wpList_push rfl _ _ _ rfl w.heap.size 21 _ 4 elt_rune _ _ _ _ rfl hown (.int .i32 (48 + n / 10 % 10)) rfl rfl (by unfold maxLen; omega) (by omega) z ?_; intro v2 w2 hown2 hb2)
        go_roundw
        case rel => exact ⟨1, by omega, by go_num, by rw [HT.out, List.length_append, List.map_append]; exact hown2, hb.trans hb2⟩
        case measure => simp [intOf]
      · have HT := Lib.hid (show digD n 1 = digD n 10 by rw [digD_10, if_neg h, List.append_nil])
        generalize digD n 10 = D at *
        go_wp2_with fail
        go_roundw
        case rel => exact ⟨1, by omega, by go_num, by rw [HT.out]; exact hown, hb⟩
        case measure => simp [intOf]
    · by_cases h : 1 ≤ n
      · have HT := Lib.hid (show digD n 0 = digD n 1 ++ [48 + n % 10] by rw [digD_1, if_pos h])
        generalize digD n 1 = D at *
        go_wp2_with (at_builtin; refine wpList_push rfl _ _ _ rfl w.heap.size 21 _ 4 elt_rune _ _ _ _ rfl hown (.int .i32 (48 + n % 10)) rfl rfl (by unfold maxLen; omega) (by omega) z ?_; intro v2 w2 hown2 hb2)
        go_roundw
        case rel => exact ⟨0, by omega, by go_num, by rw [HT.out, List.length_append, List.map_append]; exact hown2, hb.trans hb2⟩
        case measure => simp [intOf]
      · have HT := Lib.hid (show digD n 0 = digD n 1 by rw [digD_1, if_neg h, List.append_nil])
        generalize digD n 1 = D at *
        go_wp2_with fail
        go_roundw
        case rel => exact ⟨0, by omega, by go_num, by rw [HT.out]; exact hown, hb⟩
        case measure => simp [intOf]
    · have HA := Lib.hid (digD_all n)
      generalize digD n 0 = D at *
      go_wp2_with fail
      go_ret
      rw [← HA.out]
      exact ⟨A1, c1, rfl, hown, hb⟩
end Go.Proofs.Ytbfedakncdodcaa

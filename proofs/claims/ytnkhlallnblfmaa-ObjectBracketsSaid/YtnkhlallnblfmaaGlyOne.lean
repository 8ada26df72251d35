/-
  Contracts of the document's own answers, layer 2: May, Bytes, number.
-/
import Derived.Test.YtnkhlallnblfmaaRows
import Derived.Test.YtnkhlallnblfmaaUtfSigns
namespace Go.Proofs.Ytnkhlallnblfmaa
open Go.RowKit

def mayB (r : Int) : Bool := decide (0 ≤ r) && decide (r ≤ 1114111) && (decide (r < 55296) || decide (57343 < r))
theorem mayB_may (r : Nat) : mayB (r : Int) = true ↔ may r := by
  unfold mayB may
  simp
  omega
theorem ret_bool {a b : Bool} (h : a = b) : Ending.returned (.bool a) = .returned (.bool b) := by rw [h]

set_option maxHeartbeats 400000 in
theorem refMay_any (r : Int) (w : World) :
    Calls Try.prog 45 #[.int .i64 r] w fun e w' => e = .returned (.bool (mayB r)) ∧ w = w' := by
  have HM : Hid (mayB r = (decide (0 ≤ r) && decide (r ≤ 1114111) && (decide (r < 55296) || decide (57343 < r)))) := rfl
  by_cases h0 : 0 ≤ r
  · by_cases h1 : r ≤ 1114111
    · by_cases h2 : r < 55296
      · go_enter Try.func45, Try.ntmps45
        go_wp2
        go_ret
        exact ⟨ret_bool (by rw [HM.out]; simp [h0, h1, h2]), rfl⟩
      · by_cases h3 : 57343 < r
        all_goals
          go_enter Try.func45, Try.ntmps45
          go_wp2
          go_ret
          exact ⟨ret_bool (by rw [HM.out]; simp [h0, h1, h2, h3]), rfl⟩
    · go_enter Try.func45, Try.ntmps45
      go_wp2
      go_ret
      exact ⟨ret_bool (by rw [HM.out]; simp; omega), rfl⟩
  · go_enter Try.func45, Try.ntmps45
    go_wp2
    go_ret
    exact ⟨ret_bool (by rw [HM.out]; simp; omega), rfl⟩

set_option maxRecDepth 4000000 in
set_option maxHeartbeats 1000000 in
theorem refGlyBytes_any (r : Nat) (hr : r ≤ 1114111) (w : World) :
    Calls Try.prog 46 #[.int .i64 r] w fun e w' => e = .returned (.string ⟨(enc r).toArray⟩) ∧ Below w.heap.size w w' := by
  by_cases h1 : r < 128
  · have hE : Hid (enc r = [byteOf r]) := if_pos h1
    have hcv := str_new (P := Try.prog) w 71 9 5 5 Try.underlying71 Try.underlying5 Try.underlying9 [byteOf r] [.int .u8 (r : Int)]
      (by simp only [List.map_cons, List.map_nil, byteOf]; rw [byt_nat (n := r) (i := (r : Int)) (by omega) (by omega)]) 1 1 rfl
    go_enter Try.func46, Try.ntmps46
    go_wp2
    go_ret
    exact ⟨by rw [hE.out]; rfl, (Below.refl _ _).alloc (Nat.le_refl _) _⟩
  · by_cases h2 : r < 2048
    · have hE : Hid (enc r = [byteOf (0xC0 + r / 64), byteOf (0x80 + r % 64)]) := by show enc r = _; unfold enc; rw [if_neg h1, if_pos h2]
      have hcv := str_new (P := Try.prog) w 71 9 5 5 Try.underlying71 Try.underlying5 Try.underlying9 [byteOf (0xC0 + r / 64), byteOf (0x80 + r % 64)] [.int .u8 (192 + (r : Int) / 64), .int .u8 (128 + (r : Int) % 64)]
        (by simp only [List.map_cons, List.map_nil, byteOf]; rw [byt_nat (n := 0xC0 + r / 64) (i := 192 + (r : Int) / 64) (by omega) (by omega), byt_nat (n := 0x80 + r % 64) (i := 128 + (r : Int) % 64) (by omega) (by omega)]) 2 2 rfl
      go_enter Try.func46, Try.ntmps46
      go_wp2
      go_ret
      exact ⟨by rw [hE.out]; rfl, (Below.refl _ _).alloc (Nat.le_refl _) _⟩
    · by_cases h3 : r < 65536
      · have hE : Hid (enc r = [byteOf (0xE0 + r / 4096), byteOf (0x80 + r / 64 % 64), byteOf (0x80 + r % 64)]) := by show enc r = _; unfold enc; rw [if_neg h1, if_neg h2, if_pos h3]
        have hcv := str_new (P := Try.prog) w 71 9 5 5 Try.underlying71 Try.underlying5 Try.underlying9 [byteOf (0xE0 + r / 4096), byteOf (0x80 + r / 64 % 64), byteOf (0x80 + r % 64)] [.int .u8 (224 + (r : Int) / 4096), .int .u8 (128 + (r : Int) / 64 % 64), .int .u8 (128 + (r : Int) % 64)]
          (by simp only [List.map_cons, List.map_nil, byteOf]; rw [byt_nat (n := 0xE0 + r / 4096) (i := 224 + (r : Int) / 4096) (by omega) (by omega), byt_nat (n := 0x80 + r / 64 % 64) (i := 128 + (r : Int) / 64 % 64) (by omega) (by omega), byt_nat (n := 0x80 + r % 64) (i := 128 + (r : Int) % 64) (by omega) (by omega)]) 3 3 rfl
        go_enter Try.func46, Try.ntmps46
        go_wp2
        go_ret
        exact ⟨by rw [hE.out]; rfl, (Below.refl _ _).alloc (Nat.le_refl _) _⟩
      · have hE : Hid (enc r = [byteOf (0xF0 + r / 262144), byteOf (0x80 + r / 4096 % 64), byteOf (0x80 + r / 64 % 64), byteOf (0x80 + r % 64)]) := by show enc r = _; unfold enc; rw [if_neg h1, if_neg h2, if_neg h3]
        have hcv := str_new (P := Try.prog) w 71 9 5 5 Try.underlying71 Try.underlying5 Try.underlying9 [byteOf (0xF0 + r / 262144), byteOf (0x80 + r / 4096 % 64), byteOf (0x80 + r / 64 % 64), byteOf (0x80 + r % 64)] [.int .u8 (240 + (r : Int) / 262144), .int .u8 (128 + (r : Int) / 4096 % 64), .int .u8 (128 + (r : Int) / 64 % 64), .int .u8 (128 + (r : Int) % 64)]
          (by simp only [List.map_cons, List.map_nil, byteOf]; rw [byt_nat (n := 0xF0 + r / 262144) (i := 240 + (r : Int) / 262144) (by omega) (by omega), byt_nat (n := 0x80 + r / 4096 % 64) (i := 128 + (r : Int) / 4096 % 64) (by omega) (by omega), byt_nat (n := 0x80 + r / 64 % 64) (i := 128 + (r : Int) / 64 % 64) (by omega) (by omega), byt_nat (n := 0x80 + r % 64) (i := 128 + (r : Int) % 64) (by omega) (by omega)]) 4 4 rfl
        go_enter Try.func46, Try.ntmps46
        go_wp2
        go_ret
        exact ⟨by rw [hE.out]; rfl, (Below.refl _ _).alloc (Nat.le_refl _) _⟩
end Go.Proofs.Ytnkhlallnblfmaa

/-
  Contracts for package label: Join, Meet, Below, only, Place, Of, Cats.
-/
import Derived.Test.YtoodneheadknoaaRows
import Derived.Test.YtoodneheadknoaaWords
import Derived.Test.YtoodneheadknoaaLabMath
namespace Go.Proofs.Ytoodneheadknoaa
open Go.RowKit

set_option maxHeartbeats 400000 in
theorem join_any (a b : Nat) (ha : a < 18446744073709551616) (hb : b < 18446744073709551616) (w : World) :
    Calls Try.prog 11 #[.int .u64 a, .int .u64 b] w fun e w' => e = .returned (.int .u64 ((a ||| b : Nat) : Int)) ∧ w = w' := by
  have h := u64_or_nat a b ha hb
  go_enter Try.func11, Try.ntmps11
  go_wp2
  go_ret
  exact ⟨rfl, rfl⟩

set_option maxHeartbeats 400000 in
theorem meet_any (a b : Nat) (ha : a < 18446744073709551616) (hb : b < 18446744073709551616) (w : World) :
    Calls Try.prog 13 #[.int .u64 a, .int .u64 b] w fun e w' => e = .returned (.int .u64 ((a &&& b : Nat) : Int)) ∧ w = w' := by
  have h := u64_and_nat a b ha hb
  go_enter Try.func13, Try.ntmps13
  go_wp2
  go_ret
  exact ⟨rfl, rfl⟩

def subB (a b : Nat) : Bool := (((a &&& b : Nat) : Int) == (a : Int))

set_option maxHeartbeats 400000 in
theorem below_any (a b : Nat) (ha : a < 18446744073709551616) (hb : b < 18446744073709551616) (w : World) :
    Calls Try.prog 15 #[.int .u64 a, .int .u64 b] w fun e w' => e = .returned (.bool (subB a b)) ∧ w = w' := by
  go_enter Try.func15, Try.ntmps15
  go_wp2_with (go_at_call 13; refine (meet_any a b ha hb _).mono ?_; rintro e w' ⟨rfl, rfl⟩)
  go_ret
  exact ⟨rfl, rfl⟩

theorem wrap_pow {k : Nat} (hk : k < 64) : IntKind.u64.wrap (2 ^ k) = ((2 ^ k : Nat) : Int) := by
  have h := pow_lt hk
  have e : ((2 : Int) ^ k) = ((2 ^ k : Nat) : Int) := by simp
  rw [IntKind.wrap_u64, e]
  generalize 2 ^ k = m at h
  omega

theorem ret_int {k : IntKind} {a b : Int} (h : a = b) : Ending.returned (.int k a) = .returned (.int k b) := by rw [h]

set_option maxHeartbeats 400000 in
theorem only_any (k : Nat) (hk : k < 64) (w : World) :
    Calls Try.prog 32 #[.int .i64 k] w fun e w' => e = .returned (.int .u64 ((2 ^ k : Nat) : Int)) ∧ w = w' := by
  go_enter Try.func32, Try.ntmps32
  go_wp2
  go_ret
  exact ⟨ret_int (wrap_pow hk), rfl⟩


def joinAllN (zs : List Nat) : Nat := zs.foldl (fun a b => a ||| b) 0
theorem joinAllN_lt (zs : List Nat) (h : ∀ z ∈ zs, z < 18446744073709551616) : joinAllN zs < 18446744073709551616 := by
  have key : ∀ (ys : List Nat) (a : Nat), a < 18446744073709551616 → (∀ z ∈ ys, z < 18446744073709551616) → ys.foldl (fun a b => a ||| b) a < 18446744073709551616 := by
    intro ys
    induction ys with
    | nil => intro a ha _; exact ha
    | cons y ys ih => intro a ha hy; exact ih _ (or_lt ha (hy y (by simp))) (fun z hz => hy z (by simp [hz]))
  exact key zs 0 (by decide) h
theorem joinAllN_snoc (zs : List Nat) (z : Nat) : joinAllN (zs ++ [z]) = joinAllN zs ||| z := by unfold joinAllN; rw [List.foldl_append]; rfl
theorem take_snoc {α : Type} (zs : List α) (k : Nat) (h : k < zs.length) : zs.take (k + 1) = zs.take k ++ [zs[k]] := by
  rw [List.take_succ_eq_append_getElem h]

set_option maxHeartbeats 400000 in
theorem joinAll_any (A : Option Addr) (c B : Nat) (zs : List Nat) (hz : ∀ z ∈ zs, z < 18446744073709551616) (hlen : zs.length ≤ maxLen) (w : World) (h : Row w B A (zs.map u64v)) :
    Calls Try.prog 17 #[.slice A zs.length c] w fun e w' => e = .returned (.int .u64 ((joinAllN zs : Nat) : Int)) ∧ w = w' := by
  unfold maxLen at hlen
  go_enter Try.func17, Try.ntmps17
  go_wp2
  go_loop [3, 8] (fun t i => ∃ k : Nat, k ≤ zs.length ∧ i = .int .i64 k ∧ t = .int .u64 (joinAllN (zs.take k))) (fun _ i => zs.length - (intOf i).toNat)
  case atStart => exact ⟨0, Nat.zero_le _, rfl, rfl⟩
  case round =>
    obtain ⟨k, hk, rfl, rfl⟩ := hrel
    by_cases hlt : k < zs.length
    · obtain ⟨ad, rfl, hbl, hcell⟩ := h.map_at hlt
      have hzk := hz _ (List.getElem_mem hlt)
      have hj := joinAllN_lt (zs.take k) (fun z hz' => hz z (List.mem_of_mem_take hz'))
      unfold u64v at hcell
      go_wp2_with (go_at_call 11; refine (join_any _ _ (by assumption) (by assumption) _).mono ?_; rintro e w' ⟨rfl, rfl⟩)
      go_round
      case rel => exact ⟨k + 1, by omega, by go_num, by rw [take_snoc zs k hlt, joinAllN_snoc]⟩
      case measure => simp [intOf]; omega
    · go_wp2
      go_ret
      exact ⟨by rw [List.take_of_length_le (by omega)]; rfl, rfl⟩

def placeN (zs : List Nat) (l : Nat) : Int := match zs.findIdx? (fun z => z == l) with | some i => (i : Int) | none => -1

theorem placeN_at (zs : List Nat) (l k : Nat) (hk : k < zs.length) (hne : ∀ j, (hj : j < k) → zs[j]'(by omega) ≠ l) (he : zs[k] = l) : placeN zs l = k := by
  have h : zs.findIdx? (fun z => z == l) = some k := by
    rw [List.findIdx?_eq_some_iff_getElem]
    exact ⟨hk, by simp [he], fun j hj => by simp [hne j hj]⟩
  simp [placeN, h]
theorem placeN_none (zs : List Nat) (l : Nat) (hne : ∀ j, (hj : j < zs.length) → zs[j] ≠ l) : placeN zs l = -1 := by
  have h : zs.findIdx? (fun z => z == l) = none := by
    rw [List.findIdx?_eq_none_iff]
    intro x hx
    obtain ⟨j, hj, rfl⟩ := List.getElem_of_mem hx
    simp [hne j hj]
  simp [placeN, h]

set_option maxHeartbeats 400000 in
theorem place_any (A : Option Addr) (c B l : Nat) (zs : List Nat) (hlen : zs.length ≤ maxLen) (w : World) (h : Row w B A (zs.map u64v)) :
    Calls Try.prog 19 #[.slice A zs.length c, .int .u64 l] w fun e w' => e = .returned (.int .i64 (placeN zs l)) ∧ w = w' := by
  unfold maxLen at hlen
  go_enter Try.func19, Try.ntmps19
  go_wp2
  go_loop [9] (fun i => ∃ k : Nat, k ≤ zs.length ∧ i = .int .i64 k ∧ ∀ j, (hj : j < k) → (hz : j < zs.length) → zs[j] ≠ l) (fun i => zs.length - (intOf i).toNat)
  case atStart => exact ⟨0, Nat.zero_le _, rfl, fun j hj => absurd hj (by omega)⟩
  case round =>
    obtain ⟨k, hk, rfl, hne⟩ := hrel
    have HN : Hid (∀ j, (hj : j < k) → (hz : j < zs.length) → zs[j] ≠ l) := hne
    clear hne
    by_cases hlt : k < zs.length
    · obtain ⟨ad, rfl, hbl, hcell⟩ := h.map_at hlt
      unfold u64v at hcell
      by_cases he : zs[k] = l
      · have hb : ((zs[k] : Int) == (l : Int)) = true := by simp [he]
        go_wp2
        go_ret
        exact ⟨ret_int (placeN_at zs l k hlt (fun j hj => HN.out j hj (by omega)) he).symm, rfl⟩
      · have hb : ((zs[k] : Int) == (l : Int)) = false := by simp; omega
        go_wp2
        go_round
        case rel =>
          refine ⟨k + 1, by omega, by go_num, fun j hj hz => ?_⟩
          by_cases hjk : j = k
          · subst hjk; exact he
          · exact HN.out j (by omega) hz
        case measure => simp [intOf]; omega
    · go_wp2
      go_ret
      exact ⟨ret_int (placeN_none zs l (fun j hj => HN.out j (by omega) hj)).symm, rfl⟩

def errno (n : Int) : Value := .int .i64 n

theorem ofStep_yes {l : Nat} {c : Int} (h0 : 0 ≤ c) (h1 : c < 64) : ofStep (some l) c = some (l ||| 2 ^ c.toNat) := by simp [ofStep, h0, h1]
theorem ofStep_no {l : Nat} {c : Int} (h : c < 0 ∨ 64 ≤ c) : ofStep (some l) c = none := by
  simp only [ofStep]; rw [if_neg (by omega)]

/-- what Of answers -/
def ofEnd (o : Option Nat) : Value := match o with | some l => .tuple #[.int .u64 (l : Int), .int .i64 0] | none => .tuple #[.int .u64 0, .int .i64 2]

theorem ofTo_stop (zs : List Int) (k : Nat) (hk : k < zs.length) {l : Nat} (h : ofTo (zs.take k) = some l) (hc : zs[k] < 0 ∨ 64 ≤ zs[k]) : ofTo zs = none := by
  have e : zs = zs.take k ++ [zs[k]] ++ zs.drop (k + 1) := by
    rw [← take_snoc zs k hk, List.take_append_drop]
  have h1 : ofTo (zs.take k ++ [zs[k]]) = none := by rw [ofTo_snoc, h, ofStep_no hc]
  rw [e]
  exact ofTo_none _ _ h1


set_option maxHeartbeats 400000 in
theorem of_any (A : Option Addr) (c B : Nat) (zs : List Int) (hlen : zs.length ≤ maxLen) (w : World) (h : Row w B A (zs.map intz)) :
    Calls Try.prog 21 #[.slice A zs.length c] w fun e w' => e = .returned (ofEnd (ofTo zs)) ∧ w = w' := by
  unfold maxLen at hlen
  go_enter Try.func21, Try.ntmps21
  go_wp2
  go_loop [4, 9] (fun t i => ∃ k l : Nat, k ≤ zs.length ∧ i = .int .i64 k ∧ t = .int .u64 l ∧ Hid (ofTo (zs.take k) = some l)) (fun _ i => zs.length - (intOf i).toNat)
  case atStart => exact ⟨0, 0, Nat.zero_le _, rfl, rfl, rfl⟩
  case round =>
    obtain ⟨k, l, hk, rfl, rfl, HL⟩ := hrel
    have hl := ofTo_lt _ _ HL.out
    by_cases hlt : k < zs.length
    · obtain ⟨ad, rfl, hbl, hcell⟩ := h.map_at hlt
      unfold intz at hcell
      by_cases h0 : zs[k] < 0
      · go_wp2
        go_ret2
        exact ⟨by rw [ofTo_stop zs k hlt HL.out (.inl h0)]; rfl, rfl⟩
      · by_cases h1 : 64 ≤ zs[k]
        · go_wp2
          go_ret2
          exact ⟨by rw [ofTo_stop zs k hlt HL.out (.inr h1)]; rfl, rfl⟩
        · obtain ⟨m, hm⟩ : ∃ m : Nat, zs[k] = (m : Int) := ⟨zs[k].toNat, by omega⟩
          have HS : Hid (ofTo (zs.take (k + 1)) = some (l ||| 2 ^ m)) := by
            show ofTo (zs.take (k + 1)) = some (l ||| 2 ^ m)
            rw [take_snoc zs k hlt, ofTo_snoc, HL.out, ofStep_yes (by omega) (by omega), hm, Int.toNat_natCast]
          rw [hm] at hcell h0 h1
          clear hm
          have hp := pow_lt (k := m) (by omega)
          go_wp2_with (first | (go_at_call 32; refine (only_any m (by omega) _).mono ?_; rintro e w' ⟨rfl, rfl⟩) | (go_at_call 11; refine (join_any _ _ (by assumption) (by assumption) _).mono ?_; rintro e w' ⟨rfl, rfl⟩))
          go_round
          case rel => exact ⟨k + 1, _, by omega, by go_num, rfl, HS⟩
          case measure => simp [intOf]; omega
    · have HE : Hid (ofTo zs = some l) := by
        have := HL.out
        rwa [List.take_of_length_le (by omega)] at this
      go_wp2
      go_ret2
      exact ⟨by rw [HE.out]; rfl, rfl⟩

theorem elt_int : Elt Try.prog 31 3 (.int .i64 0) 1 8 := ⟨Try.underlying31, by kernel_rfl, rfl, by decide⟩

set_option maxHeartbeats 400000 in
theorem cats_any (l : Nat) (hl : l < 18446744073709551616) (w : World) :
    Calls Try.prog 24 #[.int .u64 l] w fun e w' => ∃ A c, e = .returned (.slice A (catsTo l 64).length c) ∧ w'.ownsRow w.heap.size 3 1 (.slice A (catsTo l 64).length c) (catsTo l 64).length ((catsTo l 64).map intv) ∧ Below w.heap.size w w' := by
  go_enter Try.func24, Try.ntmps24
  go_wp2
  go_loopw [3, 5] (fun v i wr => ∃ k : Nat, k ≤ 64 ∧ i = .int .i64 k ∧ wr.ownsRow w.heap.size 3 1 v (catsTo l k).length ((catsTo l k).map intv) ∧ Below w.heap.size w wr) (fun _ i _ => 64 - (intOf i).toNat)
  case atStart => exact ⟨0, by omega, rfl, World.ownsRow_nil _ _ _ _, Below.refl _ _⟩
  case round =>
    obtain ⟨k, hk, rfl, hown, hbl⟩ := hrel
    by_cases hlt : k < 64
    · have hp := pow_lt hlt
      have hlen := catsTo_len l k
      have hsz := hbl.size
      have HB : Hid (subB (2 ^ k) l = l.testBit k) := subB_bit k l
      have HC : Hid (catsTo l (k + 1) = catsTo l k ++ (if l.testBit k then [k] else [])) := catsTo_succ l k
      by_cases ht : l.testBit k = true
      · have hsub : subB (2 ^ k) l = true := by rw [HB.out, ht]
        have HC' : Hid (catsTo l (k + 1) = catsTo l k ++ [k]) := by have := HC.out; rw [ht] at this; exact this
        clear HB HC ht
        go_wp2_with (first
          | (go_at_call 32; refine (only_any k hlt _).mono ?_; rintro e w' ⟨rfl, rfl⟩)
          | (go_at_call 15; refine (below_any _ _ hp hl _).mono ?_; rintro e w' ⟨rfl, rfl⟩; rw [hsub])
          | (at_builtin; refine wpList_push rfl _ _ _ rfl w.heap.size 3 _ 8 elt_int _ _ _ _ rfl hown (.int .i64 k) rfl rfl (by unfold maxLen; omega) (by omega) hsz ?_; intro v' w1 hown' hb'))
        go_roundw
        case rel =>
          refine ⟨k + 1, by omega, by go_num, ?_, hbl.trans hb'⟩
          rw [HC'.out]; simpa [intv] using hown'
        case measure => simp [intOf]; omega
      · have hsub : subB (2 ^ k) l = false := by rw [HB.out]; simpa using ht
        have HC' : Hid (catsTo l (k + 1) = catsTo l k) := by have := HC.out; rw [if_neg ht, List.append_nil] at this; exact this
        clear HB HC ht
        go_wp2_with (first
          | (go_at_call 32; refine (only_any k hlt _).mono ?_; rintro e w' ⟨rfl, rfl⟩)
          | (go_at_call 15; refine (below_any _ _ hp hl _).mono ?_; rintro e w' ⟨rfl, rfl⟩; rw [hsub]))
        go_roundw
        case rel =>
          refine ⟨k + 1, by omega, by go_num, ?_, hbl⟩
          rw [HC'.out]; exact hown
        case measure => simp [intOf]; omega
    · obtain rfl : k = 64 := by omega
      obtain ⟨A, c, rfl⟩ := own_form hown
      go_wp2
      go_ret
      exact ⟨A, c, rfl, hown, hbl⟩

end Go.Proofs.Ytoodneheadknoaa

/-
  Contracts for package label: Join, Meet, Below, only, Place, Of, Cats.
-/
import Derived.Test.YthdflibljngjiaaRows
import Derived.Test.YthdflibljngjiaaWords
import Derived.Test.YthdflibljngjiaaLabMath
namespace Go.Proofs.Ythdflibljngjiaa
open Go.RowKit

set_option maxHeartbeats 400000 in
theorem join_any (a b : Nat) (ha : a < 18446744073709551616) (hb : b < 18446744073709551616) (w : World) :
    Calls Try.prog 35 #[.int .u64 a, .int .u64 b] w fun e w' => e = .returned (.int .u64 ((a ||| b : Nat) : Int)) ∧ w = w' := by
  have h := u64_or_nat a b ha hb
  go_enter Try.func35, Try.ntmps35
  go_wp2
  go_ret
  exact ⟨rfl, rfl⟩

def subB (a b : Nat) : Bool := (((a &&& b : Nat) : Int) == (a : Int))

theorem wrap_pow {k : Nat} (hk : k < 64) : IntKind.u64.wrap (2 ^ k) = ((2 ^ k : Nat) : Int) := by
  have h := pow_lt hk
  have e : ((2 : Int) ^ k) = ((2 ^ k : Nat) : Int) := by simp
  rw [IntKind.wrap_u64, e]
  generalize 2 ^ k = m at h
  omega

theorem ret_int {k : IntKind} {a b : Int} (h : a = b) : Ending.returned (.int k a) = .returned (.int k b) := by rw [h]

def joinAllN (zs : List Nat) : Nat := zs.foldl (fun a b => a ||| b) 0
theorem joinAllN_lt (zs : List Nat) (h : ∀ z ∈ zs, z < 18446744073709551616) : joinAllN zs < 18446744073709551616 := by
  have key : ∀ (ys : List Nat) (a : Nat), a < 18446744073709551616 → (∀ z ∈ ys, z < 18446744073709551616) → ys.foldl (fun a b => a ||| b) a < 18446744073709551616 := by
    intro ys
    induction ys with
    | nil => intro a ha _; exact ha
    | cons y ys ih => intro a ha hy; exact ih _ (or_lt ha (hy y (by simp))) (fun z hz => hy z (by simp [hz]))
  exact key zs 0 (by decide) h
theorem joinAllN_snoc (zs : List Nat) (z : Nat) : joinAllN (zs ++ [z]) = joinAllN zs ||| z := by unfold joinAllN; rw [List.foldl_append]; rfl
theorem take_snoc {α : Type} (zs : List α) (k : Nat) (h : k < zs.length) : zs.take (k + 1) = zs.take k ++ [zs[k]] := by
  rw [List.take_succ_eq_append_getElem h]

def placeN (zs : List Nat) (l : Nat) : Int := match zs.findIdx? (fun z => z == l) with | some i => (i : Int) | none => -1

theorem placeN_at (zs : List Nat) (l k : Nat) (hk : k < zs.length) (hne : ∀ j, (hj : j < k) → zs[j]'(by omega) ≠ l) (he : zs[k] = l) : placeN zs l = k := by
  have h : zs.findIdx? (fun z => z == l) = some k := by
    rw [List.findIdx?_eq_some_iff_getElem]
    exact ⟨hk, by simp [he], fun j hj => by simp [hne j hj]⟩
  simp [placeN, h]
theorem placeN_none (zs : List Nat) (l : Nat) (hne : ∀ j, (hj : j < zs.length) → zs[j] ≠ l) : placeN zs l = -1 := by
  have h : zs.findIdx? (fun z => z == l) = none := by
    rw [List.findIdx?_eq_none_iff]
    intro x hx
    obtain ⟨j, hj, rfl⟩ := List.getElem_of_mem hx
    simp [hne j hj]
  simp [placeN, h]

def errno (n : Int) : Value := .int .i64 n

theorem ofStep_yes {l : Nat} {c : Int} (h0 : 0 ≤ c) (h1 : c < 64) : ofStep (some l) c = some (l ||| 2 ^ c.toNat) := by simp [ofStep, h0, h1]
theorem ofStep_no {l : Nat} {c : Int} (h : c < 0 ∨ 64 ≤ c) : ofStep (some l) c = none := by
  simp only [ofStep]; rw [if_neg (by omega)]

/-- what Of answers -/
def ofEnd (o : Option Nat) : Value := match o with | some l => .tuple #[.int .u64 (l : Int), .int .i64 0] | none => .tuple #[.int .u64 0, .int .i64 2]

theorem ofTo_stop (zs : List Int) (k : Nat) (hk : k < zs.length) {l : Nat} (h : ofTo (zs.take k) = some l) (hc : zs[k] < 0 ∨ 64 ≤ zs[k]) : ofTo zs = none := by
  have e : zs = zs.take k ++ [zs[k]] ++ zs.drop (k + 1) := by
    rw [← take_snoc zs k hk, List.take_append_drop]
  have h1 : ofTo (zs.take k ++ [zs[k]]) = none := by rw [ofTo_snoc, h, ofStep_no hc]
  rw [e]
  exact ofTo_none _ _ h1


end Go.Proofs.Ythdflibljngjiaa

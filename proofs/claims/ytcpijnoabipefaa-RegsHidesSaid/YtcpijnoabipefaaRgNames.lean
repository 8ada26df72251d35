/-
  The names for reading, one by one; what a call changes: layer 9.
-/
import Derived.Test.YtcpijnoabipefaaRgDoes
import Derived.Test.YtcpijnoabipefaaRgRow
import Derived.Test.YtcpijnoabipefaaUtfRange
namespace Go.Proofs.Ytcpijnoabipefaa
open Go.RowKit

def namesL : List UInt8 := [34, 45, 48, 49, 50, 51, 52, 53, 54, 55, 56, 57, 97, 98, 99, 100, 101, 102, 103, 104, 105, 106, 107, 108, 109, 110, 111, 112, 113, 114, 115, 116, 117, 118, 119, 120, 121, 122]
def nameN (k : Nat) : Nat := ((namesL[k]?).getD 0).toNat
theorem names_dec (k : Nat) (hk : k < 38) : dec (namesL.drop k) = (nameN k, 1) := by
  have : ∀ k : Fin 38, dec (namesL.drop k.1) = (nameN k.1, 1) := by decide +kernel
  exact this ⟨k, hk⟩
theorem names_len : namesL.length = 38 := rfl
theorem name_kinds (k : Nat) (hk : k < 38) : nameN k = 34 ∨ nameN k = 45 ∨ (48 ≤ nameN k ∧ nameN k ≤ 57) ∨ (97 ≤ nameN k ∧ nameN k ≤ 122) := by
  have : ∀ k : Fin 38, nameN k.1 = 34 ∨ nameN k.1 = 45 ∨ (48 ≤ nameN k.1 ∧ nameN k.1 ≤ 57) ∨ (97 ≤ nameN k.1 ∧ nameN k.1 ≤ 122) := by decide +kernel
  exact this ⟨k, hk⟩
theorem plN_readable {n : Nat} (h : n = 34 ∨ n = 45 ∨ (48 ≤ n ∧ n ≤ 57) ∨ (97 ≤ n ∧ n ≤ 122)) : (n = 34 ∧ plN n = 37) ∨ (n = 45 ∧ plN n = 36) ∨ ((48 ≤ n ∧ n ≤ 57) ∧ plN n = 26 + ((n : Int) - 48)) ∨ ((97 ≤ n ∧ n ≤ 122) ∧ plN n = (n : Int) - 97) := by
  rcases h with rfl | rfl | h | h
  · exact .inl ⟨rfl, by decide⟩
  · exact .inr (.inl ⟨rfl, by decide⟩)
  · refine .inr (.inr (.inl ⟨h, ?_⟩))
    unfold plN
    rw [if_neg (by simp [unN]; omega), if_neg (by simp [capN]; omega), if_neg (by simp [letN]; omega), if_pos (by omega)]
  · refine .inr (.inr (.inr ⟨h, ?_⟩))
    unfold plN
    rw [if_neg (by simp [unN]; omega), if_neg (by simp [capN]; omega), if_pos (by simp [letN]; omega)]
/-- where the register of a name for reading is -/
theorem name_place (k : Nat) (hk : k < 38) : ∃ p : Nat, plN (nameN k) = (p : Int) ∧ p < 38 ∧ (p = 37 → nameN k = 34) ∧ ∀ m : Int, 97 ≤ m → m ≤ 122 → (p : Int) = m - 97 → (nameN k : Int) = m := by
  rcases plN_readable (name_kinds k hk) with ⟨h, e⟩ | ⟨h, e⟩ | ⟨h, e⟩ | ⟨h, e⟩
  · exact ⟨37, e, by omega, fun _ => h, fun m h1 h2 h3 => by omega⟩
  · exact ⟨36, e, by omega, fun h => by omega, fun m h1 h2 h3 => by omega⟩
  · exact ⟨26 + (nameN k - 48), by rw [e]; omega, by omega, fun h => by omega, fun m h1 h2 h3 => by omega⟩
  · exact ⟨nameN k - 97, by rw [e]; omega, by omega, fun h => by omega, fun m h1 h2 h3 => by omega⟩
theorem name_bound (k : Nat) (hk : k < 38) : (-2147483648 : Int) ≤ (nameN k : Int) ∧ (nameN k : Int) ≤ 2147483647 := by
  have := name_kinds k hk
  omega
theorem getR_at {R : List RegP} {n : Int} {p : Nat} (h : plN n = (p : Int)) : getR R n = if (atR R p).full = false then (zeroR, 6) else (atR R p, 0) := by
  unfold getR
  rw [if_neg (by omega), h, Int.toNat_natCast]

theorem getR_txt {R : List RegP} (h : OkRs R) (n : Int) : (getR R n).1.S.length ≤ maxLen ∧ Fits (getR R n).1.l ∧ (getR R n).1.l.length ≤ maxLen := by
  have key : ∀ r : RegP, r.ok → r.S.length ≤ maxLen ∧ Fits r.l ∧ r.l.length ≤ maxLen := fun r hr => by
    have := goodT_runs hr.1
    exact ⟨by unfold maxLen; omega, hr.2.1, by unfold maxLen; omega⟩
  unfold getR
  split
  · exact key _ zeroR_ok
  · split
    · exact key _ zeroR_ok
    · have hp := plN_range n
      exact key _ (atR_ok h (by omega))
/-- what a call does to the list -/
inductive Doing (R : List RegP) (n : Int) : List RegP × Nat → Prop
  | bad {k : Nat} : k ≠ 0 → Doing R n (R, k)
  | hole : n = 95 → Doing R n (R, 0)
  | letter {x : RegP} : letN n = true → Doing R n (put2 R (plN n).toNat 37 x, 0)
  | none_ {R' : List RegP} : unN n = true → Doing R n (R', 0)
theorem letterR_doing {R : List RegP} {n : Int} {S : List UInt8} {l : List RunP} {b : Bool} (h : letN n = true) : Doing R n (letterR R n S l b) := by
  unfold letterR
  split
  · split
    · exact .letter h
    · next e => exact .bad e
  · exact .letter h
theorem yankR_doing (R : List RegP) (n : Int) (S : List UInt8) (l : List RunP) (b : Bool) : Doing R n (yankR R n S l b) := by
  unfold yankR
  split
  · next hc =>
    split
    · next h => exact letterR_doing h
    · split
      · next h => exact .hole h
      · next h1 h2 =>
        rcases (checkR_good hc).1 with h | h | h
        · exact .none_ h
        · exact absurd h h1
        · exact absurd h h2
  · exact .bad (by decide)
theorem doesR_doing (R : List RegP) (n : Int) (S : List UInt8) (l : List RunP) (b cut wide : Bool) : Doing R n (doesR R n S l b cut wide) := by
  unfold doesR
  split
  · unfold deleteR
    split
    · exact yankR_doing ..
    · next hu =>
      have hu : unN n = true := by simpa using hu
      split
      · split
        · exact .none_ hu
        · exact .none_ hu
      · exact .bad (by decide)
  · exact yankR_doing ..
/-- the small letter of a name -/
def lowN (n : Int) : Int := if 65 ≤ n ∧ n ≤ 90 then n + 32 else n
theorem lowN_letter {n : Int} (h : letN n = true) : 97 ≤ lowN n ∧ lowN n ≤ 122 ∧ plN n = lowN n - 97 := by
  have h' := of_decide_eq_true h
  have hu : ¬ unN n = true := fun e => by have := of_decide_eq_true e; omega
  unfold lowN plN
  rw [if_neg hu]
  by_cases hc : 65 ≤ n ∧ n ≤ 90
  · rw [if_pos hc, if_pos (show capN n = true from decide_eq_true hc)]; omega
  · rw [if_neg hc, if_neg (show ¬ capN n = true from fun e => hc (of_decide_eq_true e)), if_pos h]; omega
theorem lowN_un {n : Int} (h : unN n = true) : lowN n < 97 ∧ lowN n ≠ 95 := by
  have := of_decide_eq_true h
  unfold lowN
  split <;> omega
/-- registers that no name of a letter says are as they were -/
theorem beside {R : List RegP} (hR : R.length = 38) {n : Int} (h : letN n = true) {x : RegP} {k : Nat} (hk : k < 38) (h1 : (nameN k : Int) ≠ lowN n) (h2 : nameN k ≠ 34) : getR (put2 R (plN n).toNat 37 x) (nameN k) = getR R (nameN k) := by
  obtain ⟨p, hp, hp38, h37, hl⟩ := name_place k hk
  obtain ⟨l1, l2, l3⟩ := lowN_letter h
  have e1 : ¬ p = 37 := fun e => h2 (h37 e)
  have e2 : ¬ p = (plN n).toNat := fun e => h1 (hl (lowN n) l1 l2 (by omega))
  have e : atR (put2 R (plN n).toNat 37 x) p = atR R p := by rw [atR_put2 (by omega) (by omega), if_neg e1, if_neg e2]
  rw [getR_at hp, getR_at hp, e]
end Go.Proofs.Ytcpijnoabipefaa

/-
  The runs of some bytes, passed on one by one: layer 3.
-/
import Derived.Test.YthdflibljngjiaaRunAdd
namespace Go.Proofs.Ythdflibljngjiaa
open Go.RowKit

theorem cut_more (b : List Nat) (x N : Nat) (f t : Int) (h0 : 0 ≤ f) (h1 : f ≤ t) : cut (b ++ List.replicate N x) f t = cut b f t ++ List.replicate (min ((b.length : Int) + N) t - max (b.length : Int) f).toNat x := by
  unfold cut
  rw [List.drop_append, List.take_append, List.drop_replicate, List.take_replicate, List.length_drop]
  congr 2
  omega
theorem cut_nil (f t : Int) : cut [] f t = [] := by simp [cut]

set_option maxHeartbeats 1000000 in
theorem runPart_any (fn : Nat) (hent : ∀ (args : Array Value) (w : World), Sem.run Try.prog (callFunc fn args) w = .ok (.enter fn args) w) (cap : Array Value) (base g : Nat) (φ : Nat → Nat) (I : World → List Nat → Prop) (hal : ∀ w b o, I w b → I (w.alloc o) b) (hsz : ∀ w b, I w b → g ≤ w.heap.size)
    (hcall : ∀ (b : List Nat) (x : Nat) (n : Int) (w : World), b.length ≤ 100000 → x < 18446744073709551616 → -10000 ≤ n ∧ n ≤ 10000 → I w b →
      Calls Try.prog fn (#[.agg #[.int .u64 x, .int .i64 n]] ++ cap) w fun e w' => e = .returned (.tuple #[]) ∧ I w' (b ++ List.replicate n.toNat (φ x)) ∧ Kept base g w w')
    (A : Option Addr) (c B : Nat) (l : List RunP) (f t : Int) (hf : Fits l) (hlen : l.length ≤ maxLen) (hs : sumN l ≤ 4096) (hn : ∀ r ∈ l, 0 ≤ r.2) (h0 : 0 ≤ f) (h1 : f ≤ t) (h2 : t ≤ 4096) (b : List Nat) (hb : b.length ≤ 90000)
    (w : World) (hI : I w b) (hB : B ≤ g) (h : Row w B A (flatR l)) :
    Calls Try.prog 39 #[.slice A l.length c, .int .i64 f, .int .i64 t, .func (.func fn) #[] cap] w fun e w' => e = .returned (.tuple #[]) ∧ I w' (b ++ (cut (bytesOf l) f t).map φ) ∧ Kept base g w w' := by
  unfold maxLen at hlen
  have HF := Lib.hid hf
  have HN := Lib.hid hn
  have HC := Lib.hid hcall
  have HA := Lib.hid hal
  have HSZ := Lib.hid hsz
  clear hf hn hcall hal hsz
  go_enter Try.func39, Try.ntmps39
  go_wp2
  go_loopw [8, 14] (fun s i wr => ∃ k : Nat, k ≤ l.length ∧ i = .int .i64 k ∧ s = .int .i64 (sumN (l.take k) : Nat) ∧ I wr (b ++ (cut (bytesOf (l.take k)) f t).map φ) ∧ Kept base g w wr) (fun _ i _ => l.length - (intOf i).toNat)
  case atStart => exact ⟨0, Nat.zero_le _, rfl, rfl, by simpa [cut_nil, bytesOf] using hI, Kept.refl _ _ _⟩
  case round =>
    obtain ⟨k, hk, rfl, rfl, hI, hb⟩ := hrel
    have z := HSZ.out _ _ hI
    by_cases hlt : k < l.length
    · obtain ⟨ad, rfl, hbl, c0, c1⟩ := run_cells (h.below (hb.1.mono hB)) hlt
      have hfk := HF.out l[k] (List.getElem_mem hlt)
      have hnk := HN.out l[k] (List.getElem_mem hlt)
      have hs1 := sumN_succ l k hlt
      have hle := sumN_take_le l (k + 1)
      have HBS := bytesOf_succ l k hlt
      generalize l[k] = r at *
      obtain ⟨x, n⟩ := r
      dsimp only at *
      have HB : Hid (bytesOf (l.take (k + 1)) = bytesOf (l.take k) ++ List.replicate n.toNat x) := HBS
      have HL := Lib.hid (bytesOf_len (l.take k))
      have HM := Lib.hid (cut_more (bytesOf (l.take k)) x n.toNat f t h0 h1)
      rw [← HB.out, HL.out] at HM
      have HLC : Hid ((b ++ (cut (bytesOf (l.take k)) f t).map φ).length ≤ 100000) := by
        show _ ≤ _
        have := HL.out
        have : (cut (bytesOf (l.take k)) f t).length ≤ (bytesOf (l.take k)).length := by unfold cut; rw [List.length_take, List.length_drop]; omega
        rw [List.length_append, List.length_map]; omega
      have HI := HA.out _ _ (.cells #[.int .u64 (x : Nat), .int .i64 n] 51) hI
      have HX : Hid (x < 18446744073709551616) := hfk.1
      generalize sumN (l.take k) = s at *
      have HS1 := Lib.hid hs1
      have HK := Lib.hid (hb.alloc z (.cells #[.int .u64 (x : Nat), .int .i64 n] 51))
      clear hs1 hI hb
      have hsn : (s : Int) + n ≤ 4096 := by have := HS1.out; omega
      go_wp2_with fail
      all_goals
        refine (HC.out _ x _ _ HLC.out HX.out (by omega) HI).mono ?_
        rintro e w2 ⟨rfl, hI2, hb2⟩
        go_wp2
        go_roundw
        case rel =>
          refine ⟨k + 1, by omega, by go_num, by rw [HS1.out]; congr 1; omega, ?_, HK.out.trans hb2⟩
          rw [HM.out, List.map_append, List.map_replicate, ← List.append_assoc]
          refine (congrArg (fun N => I w2 (b ++ List.map φ (cut (bytesOf (List.take k l)) f t) ++ List.replicate N (φ x))) ?_).mpr hI2
          omega
        case measure => simp [intOf]; omega
    · obtain rfl : k = l.length := by omega
      rw [List.take_length] at hI
      go_wp2
      go_end0
      exact ⟨rfl, hI, hb⟩
end Go.Proofs.Ythdflibljngjiaa

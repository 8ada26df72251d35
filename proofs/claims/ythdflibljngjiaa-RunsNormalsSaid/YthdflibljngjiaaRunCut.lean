/-
  Contracts of the document's own answers, layer 3: Slice.
-/
import Derived.Test.YthdflibljngjiaaRunWithin
namespace Go.Proofs.Ythdflibljngjiaa
open Go.RowKit

def cut (b : List Nat) (f t : Int) : List Nat := (b.drop f.toNat).take (t - f).toNat
def sliceOf (l : List RunP) (f t : Int) : List RunP × Nat := if withinB l f t = true then (pack (cut (bytesOf l) f t), 0) else ([], 2)
theorem within_of {l : List RunP} {f t : Int} (h : withinB l f t = true) : goodB l = true ∧ 0 ≤ f ∧ f ≤ t ∧ t ≤ ((bytesOf l).length : Int) ∧ (bytesOf l).length ≤ 4096 ∧ sumN l ≤ 4096 := by
  unfold withinB at h
  simp at h
  have h1 := (goodB_iff l).1 h.1
  have h2 := totalOf_good h.1
  have h3 := bytesOf_len l
  obtain ⟨hg, h4, h5, h6⟩ := h
  exact ⟨hg, h4, h5, by omega, by omega, h1.1⟩
theorem cut_len {b : List Nat} {f t : Int} (h0 : 0 ≤ f) (h1 : f ≤ t) (h2 : t ≤ (b.length : Int)) : ((cut b f t).length : Int) = t - f := by
  unfold cut
  rw [List.length_take, List.length_drop]
  omega
theorem row_cut {w : World} {B : Nat} {ad : Addr} {b : List Nat} (h : ∀ j u, (b.map u64v)[j]? = some u → w.cell? (ad.add j) = some u) (hb : ad.block < B) (f t : Int) (_h0 : 0 ≤ f) : Row w B (some (ad.add f.toNat)) ((cut b f t).map u64v) := by
  refine .inr ⟨_, rfl, by unfold Addr.add; split <;> exact hb, fun j u hj => ?_⟩
  have : (b.map u64v)[f.toNat + j]? = some u := by
    unfold cut at hj
    rw [List.getElem?_map, List.getElem?_take] at hj
    split at hj
    · rw [List.getElem?_drop] at hj
      rw [List.getElem?_map]; exact hj
    · simp at hj
  have := h _ _ this
  rw [← this]
  congr 1
  unfold Addr.add
  by_cases hi : f.toNat = 0 <;> by_cases hj : j = 0 <;> simp [hi, hj, Nat.add_assoc]

theorem own_cap {w : World} {base e size n n' c : Nat} {A : Option Addr} {xs : List Value} (h : w.ownsRow base e size (.slice A n' c) n xs) : n ≤ c := by
  rcases h.2 with ⟨_, hn⟩ | ⟨g, cap, cur, hv, _, _, hn, _⟩
  · omega
  · simp at hv; omega
theorem cut_mem {b : List Nat} {f t : Int} {P : Nat → Prop} (h : ∀ x ∈ b, P x) : ∀ x ∈ cut b f t, P x := fun x hx => h x (List.mem_of_mem_drop (List.mem_of_mem_take hx))
theorem row_own_cut {w : World} {base e n c : Nat} {A : Option Addr} {b : List Nat} (h : w.ownsRow base e 1 (.slice A n c) n (b.map u64v)) (f t : Int) (h0 : 0 ≤ f) :
    Row w w.heap.size (Option.map (fun x => x.add f.toNat) A) ((cut b f t).map u64v) := by
  rcases Row.of_own h with hn | ⟨ad, rfl, hb, hc⟩
  · have : b = [] := by simpa using hn
    subst this
    exact .inl (by simp [cut])
  · exact row_cut hc hb f t h0

set_option maxHeartbeats 1000000 in
theorem refSlice_any (A : Option Addr) (c B : Nat) (l : List RunP) (f t : Int) (hf : Fits l) (hlen : l.length ≤ maxLen) (w : World) (hB : B ≤ w.heap.size) (h : Row w B A (flatR l)) :
    Calls Try.prog 24 #[.slice A l.length c, .int .i64 f, .int .i64 t] w (Gives w (sliceOf l f t)) := by
  have HF := Lib.hid hf
  clear hf
  by_cases hw : withinB l f t = true
  · have HR : Hid (sliceOf l f t = (pack (cut (bytesOf l) f t), 0)) := if_pos hw
    obtain ⟨_, h0, h1, h2, h3, hs⟩ := within_of hw
    have HC := Lib.hid (cut_len h0 h1 h2)
    go_enter Try.func24, Try.ntmps24
    go_wp2_with (first
      | (go_at_call 40; refine (refWithin_any A c B l f t HF.out hlen _ hB h).mono ?_; rintro e w1 ⟨rfl, hb1⟩; rw [hw]; have z1 := hb1.size)
      | (go_at_call 34; refine (refBytes_any A c B l HF.out hlen hs _ (by omega) (h.below (hb1.mono hB))).mono ?_; rintro e w2 ⟨A2, c2, rfl, hown2, hb2⟩; have z2 := hb2.size; have hcap := own_cap hown2))
    all_goals have e : t.toNat - f.toNat = (cut (bytesOf l) f t).length := by have := HC.out; omega
    all_goals rw [e]
    all_goals have HZ : Hid (∀ x ∈ cut (bytesOf l) f t, x < 18446744073709551616) := cut_mem (bytesOf_mem HF.out)
    all_goals have HW : Hid (Row w2 w2.heap.size (Option.map (fun x => x.add f.toNat) A2) ((cut (bytesOf l) f t).map u64v)) := row_own_cut hown2 f t h0
    all_goals generalize cut (bytesOf l) f t = b at *
    all_goals clear e
    · next h =>
      have hb0 : b = [] := by have := HC.out; apply List.eq_nil_of_length_eq_zero; omega
      have HW2 : Row w2 w2.heap.size A2 (b.map u64v) := .inl (by rw [hb0]; rfl)
      clear hb0
      refine (refPack_any A2 0 w2.heap.size b HZ.out (by have := HC.out; omega) _ (Nat.le_refl _) HW2).mono ?_
      rintro e w3 ⟨A3, c3, rfl, hown3, hb3⟩
      go_wp2
      go_ret2
      rw [HR.out]
      exact ⟨A3, c3, rfl, own_base hown3 (by omega), (hb1.trans (hb2.mono z1)).trans (hb3.mono (by omega))⟩
    · refine (refPack_any _ _ w2.heap.size b HZ.out (by have := HC.out; omega) _ (Nat.le_refl _) HW.out).mono ?_
      rintro e w3 ⟨A3, c3, rfl, hown3, hb3⟩
      go_wp2
      go_ret2
      rw [HR.out]
      exact ⟨A3, c3, rfl, own_base hown3 (by omega), (hb1.trans (hb2.mono z1)).trans (hb3.mono (by omega))⟩
  · have HR : Hid (sliceOf l f t = ([], 2)) := if_neg hw
    have hw' : withinB l f t = false := by simpa using hw
    go_enter Try.func24, Try.ntmps24
    go_wp2_with (go_at_call 40; refine (refWithin_any A c B l f t HF.out hlen _ hB h).mono ?_; rintro e w1 ⟨rfl, hb1⟩; rw [hw'])
    go_ret2
    rw [HR.out]
    exact gives_nil hb1
end Go.Proofs.Ythdflibljngjiaa

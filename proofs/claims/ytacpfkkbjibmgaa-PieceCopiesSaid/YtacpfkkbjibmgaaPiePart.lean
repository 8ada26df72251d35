/-
  The landed store: part: layer 5.
-/
import Derived.Test.YtacpfkkbjibmgaaPieLen
import Derived.BigQuiet
import Derived.Deep.QuietTactic
namespace Go.Proofs.Ytacpfkkbjibmgaa
open Go.RowKit

set_option maxHeartbeats 2000000 in
theorem piePart_any (bs : List UInt8) (B : Nat) (A : Option Addr) (c : Nat) (ps : List PieP) (f t : Nat) (w : World) (hB : B ≤ w.heap.size) (h : Row w B A (flatP ps)) (ok : OkP bs ps) (hlen : ps.length ≤ 100000) (hmax : lenP ps ≤ 4096) (hbs : bs.length ≤ 100000) (hf : f ≤ 4096) (ht : t ≤ 4096) :
    Calls Try.prog 24 #[.slice A ps.length c, .int .i64 (f : Nat), .int .i64 (t : Nat)] w fun e w' => ∃ A' c', e = .returned (.slice A' (partP ps f t ps.length).length c') ∧
      w'.ownsRow w.heap.size 73 3 (.slice A' (partP ps f t ps.length).length c') (partP ps f t ps.length).length (flatP (partP ps f t ps.length)) ∧ Below w.heap.size w w' := by
  have HOK := Lib.hid ok
  clear ok
  go_enter Try.func24, Try.ntmps24
  go_wp2
  go_loopw [7, 8, 15] (fun v s i wr => ∃ k : Nat, k ≤ ps.length ∧ i = .int .i64 k ∧ s = .int .i64 (lenP (ps.take k) : Nat) ∧ wr.ownsRow w.heap.size 73 3 v (partP ps f t k).length (flatP (partP ps f t k)) ∧ Below w.heap.size w wr) (fun _ _ i _ => ps.length - (intOf i).toNat)
  case atStart => exact ⟨0, Nat.zero_le _, rfl, rfl, World.ownsRow_nil _ _ _ _, Below.refl _ _⟩
  case round =>
    obtain ⟨k, hk, rfl, rfl, hown, hb⟩ := hrel
    have z := hb.size
    have hm1 := lenP_take_bound hmax k
    have hpl := partP_len ps f t k
    by_cases hlt : k < ps.length
    · obtain ⟨ad, rfl, hbl, c0, c1, c2⟩ := pie_cells (h.below (hb.mono hB)) hlt
      have hs1 := lenP_succ (ps := ps) k hlt
      have hm2 := lenP_take_bound hmax (k + 1)
      have hok := HOK.out ps[k] (List.getElem_mem hlt)
      have HP := Lib.hid (partP_succ hlt f t)
      generalize ps[k] = r at *
      obtain ⟨x, n, l⟩ := r
      dsimp only at *
      have HS := Lib.hid hs1
      have hn : n ≤ 4096 := by omega
      have hx : x ≤ 100000 := by omega
      clear hs1
      generalize lenP (ps.take k) = s at *
      obtain ⟨F, hF⟩ : ∃ F, F = max s f := ⟨_, rfl⟩
      obtain ⟨E, hE⟩ : ∃ E, E = min (s + n) t := ⟨_, rfl⟩
      have hF1 : (if s < f then (f : Int) else (s : Int)) = (F : Int) := by omega
      have hE1 : (if (t : Int) < (s : Int) + (n : Int) then (t : Int) else (s : Int) + (n : Int)) = (E : Int) := by omega
      have hF2 : s ≤ F := by omega
      have hF3 : F ≤ 4096 := by omega
      have hE3 : E ≤ 4096 := by omega
      have w1 := wrap_small ((s : Int) + (n : Int)) (by omega) (by omega)
      have HO : Hid (partOne s f t (x, n, l) = if F < E then [(x + F - s, E - F, l)] else []) := by show _ = _; unfold partOne; rw [hF, hE]
      clear hF hE
      have PB := Lib.hid (pie_box hb 73 (.int .i64 (x : Nat)) (.int .i64 (n : Nat)) (.int .u64 (l : Nat)))
      by_cases hFE : F < E
      · have HPE : Hid (partP ps f t (k + 1) = partP ps f t k ++ [(x + F - s, E - F, l)]) := by show _ = _; rw [HP.out, HO.out, if_pos hFE]
        have a1 := wrap_small ((x : Int) + (F : Int)) (by omega) (by omega)
        have a2 := wrap_small ((x : Int) + (F : Int) - (s : Int)) (by omega) (by omega)
        have a3 := wrap_small ((E : Int) - (F : Int)) (by omega) (by omega)
        have e1 : Hid ([(.int .i64 ((x : Int) + (F : Int) - (s : Int)) : Value), .int .i64 ((E : Int) - (F : Int)), .int .u64 (l : Nat)] = flatP [(x + F - s, E - F, l)]) := by
          show _ = _
          rw [flatP_one]
          simp only
          rw [show ((x + F - s : Nat) : Int) = (x : Int) + (F : Int) - (s : Int) by omega, show ((E - F : Nat) : Int) = (E : Int) - (F : Int) by omega]
        clear HP HO
        go_wp2_with fail
        generalize wr.alloc (.cells #[.int .i64 (x : Nat), .int .i64 (n : Nat), .int .u64 (l : Nat)] 73) = wa at *
        obtain ⟨y0, y1, y2⟩ := blk_three PB.out.1
        clear c0 c1 c2
        go_quiet (fail)
        have hown1 := own_keep hown (below_drewN PB.out.2.2.2 nq) (Nat.le_refl _)
        have hb1 := below_drewN PB.out.2.1 nq
        have PB1 := Lib.hid (PB.out.1.drewN nq)
        clear y0 y1 y2
        generalize wa.drewN nq = wb at *
        obtain ⟨y0, y1, y2⟩ := blk_three PB1.out
        have z1 := hb1.size
        have PS : Hid (wr.heap.size < wb.heap.size) := PB1.out.lt
        have NE : Hid (u7.ownBlock ≠ some wr.heap.size) := fun e => by have := (hown.lt _ e).2; omega
        clear hown
        go_wp2_with (at_builtin; refine wpList_pushN rfl _ _ _ rfl w.heap.size 73 _ 3 24 elt_pie 73 _ _ _ rfl hown1 [.int .i64 ((x : Int) + (F : Int) - (s : Int)), .int .i64 ((E : Int) - (F : Int)), .int .u64 (l : Nat)] _ rfl rfl rfl (by simp [Value.oneCell']) (by unfold maxLen; omega) (by omega) z1 ?_; intro v3 w3 hown3 hb3 ho3; have PB3 : Hid (Blk w3 wr.heap.size 73 #[.int .i64 (x : Nat), .int .i64 (n : Nat), .int .u64 (l : Nat)]) := (ho3 _ PS.out NE.out).trans PB1.out; clear y0 y1 y2 ho3; obtain ⟨y0, y1, y2⟩ := blk_three PB3.out)
        go_roundw
        case rel => exact ⟨k + 1, by omega, by go_num, by rw [HS.out]; rfl, by rw [HPE.out, flatP_append, ← e1.out, List.length_append]; exact hown3, hb1.trans hb3⟩
        case measure => simp [intOf]; omega
      · have HPE : Hid (partP ps f t (k + 1) = partP ps f t k) := by show _ = _; rw [HP.out, HO.out, if_neg hFE, List.append_nil]
        clear HP HO
        go_wp2_with fail
        generalize wr.alloc (.cells #[.int .i64 (x : Nat), .int .i64 (n : Nat), .int .u64 (l : Nat)] 73) = wa at *
        obtain ⟨y0, y1, y2⟩ := blk_three PB.out.1
        clear c0 c1 c2
        go_quiet (fail)
        have hown1 := own_keep hown (below_drewN PB.out.2.2.2 nq) (Nat.le_refl _)
        have hb1 := below_drewN PB.out.2.1 nq
        have PB1 := Lib.hid (PB.out.1.drewN nq)
        clear y0 y1 y2
        generalize wa.drewN nq = wb at *
        obtain ⟨y0, y1, y2⟩ := blk_three PB1.out
        go_wp2_with fail
        go_roundw
        case rel => exact ⟨k + 1, by omega, by go_num, by rw [HS.out]; rfl, by rw [HPE.out]; exact hown1, hb1⟩
        case measure => simp [intOf]; omega
    · obtain rfl : k = ps.length := by omega
      obtain ⟨A1, c1, rfl⟩ := own_form hown
      go_wp2
      go_ret
      exact ⟨A1, c1, rfl, hown, hb⟩
end Go.Proofs.Ytacpfkkbjibmgaa

/-
  The landed Slice: layer 3.
-/
import Derived.Test.YthdflibljngjiaaRunMerged
namespace Go.Proofs.Ythdflibljngjiaa
open Go.RowKit

theorem ent_add (args : Array Value) (w : World) : Sem.run Try.prog (callFunc 46 args) w = .ok (.enter 46 args) w := by rfl
theorem ent_slice (args : Array Value) (w : World) : Sem.run Try.prog (callFunc 38 args) w = .ok (.enter 38 args) w := by rfl

theorem goodB_nonneg {l : List RunP} (h : goodB l = true) : ∀ r ∈ l, 0 ≤ r.2 := by
  intro r hr
  obtain ⟨k, hk, rfl⟩ := List.getElem_of_mem hr
  have := ((neat_idx l).1 ((goodB_iff l).1 h).2 k hk).1
  omega

/-- part, onto the list -/
theorem runPartAdd_any (base g : Nat) (A : Option Addr) (c B : Nat) (l : List RunP) (f t : Int) (hf : Fits l) (hlen : l.length ≤ maxLen) (hg : goodB l = true) (h0 : 0 ≤ f) (h1 : f ≤ t) (h2 : t ≤ 4096) (b : List Nat) (hb : b.length ≤ 90000)
    (w : World) (hI : Gath w base g b) (hB : B ≤ g) (h : Row w B A (flatR l)) :
    Calls Try.prog 39 #[.slice A l.length c, .int .i64 f, .int .i64 t, .func (.func 46) #[] #[.pointer (some ⟨g, 0, none⟩)]] w fun e w' =>
      e = .returned (.tuple #[]) ∧ Gath w' base g (b ++ cut (bytesOf l) f t) ∧ Kept base g w w' := by
  have := runPart_any 46 ent_add #[.pointer (some ⟨g, 0, none⟩)] base g id (fun w b => Gath w base g b) (fun w b o h => h.alloc o) (fun w b h => by have := h.1; have := h.2.1; omega)
    (fun b x n w hb hx hn hI => runAdd_any base g b x n hx (by omega) (by omega) w hI) A c B l f t hf hlen ((goodB_iff l).1 hg).1 (goodB_nonneg hg) h0 h1 h2 b hb w hI hB h
  simpa only [List.map_id] using this

set_option maxHeartbeats 1000000 in
theorem sliceEach_any (g gl gf gt : Nat) (A : Option Addr) (c B : Nat) (l : List RunP) (f t : Int) (hf : Fits l) (hlen : l.length ≤ maxLen) (hg : goodB l = true) (h0 : 0 ≤ f) (h1 : f ≤ t) (h2 : t ≤ 4096)
    (w : World) (hI : Gath w (g + 1) g []) (hB : B ≤ g) (h : Row w B A (flatR l)) (bl : Blk w gl 22 #[.slice A l.length c]) (bf : Blk w gf 3 #[.int .i64 f]) (bt : Blk w gt 3 #[.int .i64 t]) :
    Calls Try.prog 38 #[.func (.func 46) #[] #[.pointer (some ⟨g, 0, none⟩)], .pointer (some ⟨gl, 0, none⟩), .pointer (some ⟨gf, 0, none⟩), .pointer (some ⟨gt, 0, none⟩)] w fun e w' =>
      e = .returned (.tuple #[]) ∧ Gath w' (g + 1) g (cut (bytesOf l) f t) ∧ Below g w w' := by
  have HF := Lib.hid hf
  clear hf
  have k0 := bl.cell 0
  have k1 := bf.cell 0
  have k2 := bt.cell 0
  simp at k0 k1 k2
  go_enter Try.func38, Try.ntmps38
  go_wp2_with (go_at_call 39; refine (runPartAdd_any (g + 1) g A c B l f t HF.out hlen hg h0 h1 h2 [] (by simp) w hI hB h).mono ?_; rintro e w2 ⟨rfl, hI2, hb2⟩)
  go_end0
  exact ⟨rfl, hI2, hb2.1⟩

set_option maxHeartbeats 1000000 in
theorem runSlice_any (A : Option Addr) (c B : Nat) (l : List RunP) (f t : Int) (hf : Fits l) (hlen : l.length ≤ maxLen) (w : World) (hB : B ≤ w.heap.size) (h : Row w B A (flatR l)) :
    Calls Try.prog 23 #[.slice A l.length c, .int .i64 f, .int .i64 t] w (Gives w (sliceOf l f t)) := by
  have HF := Lib.hid hf
  clear hf
  have b3 : Below w.heap.size w (((w.alloc (.cells #[.slice A l.length c] 22)).alloc (.cells #[.int .i64 f] 3)).alloc (.cells #[.int .i64 t] 3)) := (((Below.refl _ w).alloc (Nat.le_refl _) _).alloc (by simp) _).alloc (by simp; omega) _
  have q0 := (((Blk.new w 22 #[.slice A l.length c]).alloc (.cells #[.int .i64 f] 3)).alloc (.cells #[.int .i64 t] 3))
  have q1 := ((Blk.new (w.alloc (.cells #[.slice A l.length c] 22)) 3 #[.int .i64 f]).alloc (.cells #[.int .i64 t] 3))
  have q2 := (Blk.new ((w.alloc (.cells #[.slice A l.length c] 22)).alloc (.cells #[.int .i64 f] 3)) 3 #[.int .i64 t])
  have z3 : (((w.alloc (.cells #[.slice A l.length c] 22)).alloc (.cells #[.int .i64 f] 3)).alloc (.cells #[.int .i64 t] 3)).heap.size = w.heap.size + 3 := by simp
  rw [show (w.alloc (.cells #[.slice A l.length c] 22)).heap.size = w.heap.size + 1 by simp] at q1
  rw [show ((w.alloc (.cells #[.slice A l.length c] 22)).alloc (.cells #[.int .i64 f] 3)).heap.size = w.heap.size + 1 + 1 by simp] at q2
  have hrow := h.below (b3.mono hB)
  by_cases hw : withinB l f t = true
  · have HR : Hid (sliceOf l f t = (pack (cut (bytesOf l) f t), 0)) := if_pos hw
    obtain ⟨hg, h0, h1, h2, h3, hs⟩ := within_of hw
    have Q := Lib.hid (And.intro b3 (And.intro q0 (And.intro q1 (And.intro q2 (And.intro z3 hrow)))))
    clear b3 q0 q1 q2 z3 hrow
    go_enter Try.func23, Try.ntmps23
    go_wp2_with (go_at_call 37; refine (runWithin_any A c B l f t HF.out hlen _ (by rw [Q.out.2.2.2.2.1]; omega) Q.out.2.2.2.2.2).mono ?_; rintro e w1 ⟨rfl, hb1⟩; rw [hw])
    have z1 : w.heap.size + 3 ≤ w1.heap.size := by have := hb1.size; rw [Q.out.2.2.2.2.1] at this; exact this
    have p0 := Q.out.2.1.below hb1 (by rw [Q.out.2.2.2.2.1]; omega)
    have p1 := Q.out.2.2.1.below hb1 (by rw [Q.out.2.2.2.2.1]; omega)
    have p2 := Q.out.2.2.2.1.below hb1 (by rw [Q.out.2.2.2.2.1]; omega)
    have prow := Q.out.2.2.2.2.2.below (hb1.mono (by rw [Q.out.2.2.2.2.1]; omega))
    have pb := Q.out.1.trans (hb1.mono (by rw [Q.out.2.2.2.2.1]; omega))
    clear Q hb1
    refine (runMerged_any 38 ent_slice _ (cut (bytesOf l) f t) w1 fun w2 hG hb2 => ?_).mono ?_
    · exact sliceEach_any w1.heap.size w.heap.size (w.heap.size + 1) (w.heap.size + 1 + 1) A c B l f t HF.out hlen hg h0 h1 (by omega) w2 hG (by omega) (prow.below (hb2.mono (by omega))) (p0.below hb2 (by omega)) (p1.below hb2 (by omega)) (p2.below hb2 (by omega))
    · rintro e w2 ⟨A2, c2, rfl, hown2, hb2⟩
      go_wp2
      go_ret2
      rw [HR.out]
      exact ⟨A2, c2, rfl, own_base hown2 (by omega), pb.trans (hb2.mono (by omega))⟩
  · have HR : Hid (sliceOf l f t = ([], 2)) := if_neg hw
    have hw' : withinB l f t = false := by simpa using hw
    have Q := Lib.hid (And.intro b3 (And.intro q0 (And.intro q1 (And.intro q2 (And.intro z3 hrow)))))
    clear b3 q0 q1 q2 z3 hrow
    go_enter Try.func23, Try.ntmps23
    go_wp2_with (go_at_call 37; refine (runWithin_any A c B l f t HF.out hlen _ (by rw [Q.out.2.2.2.2.1]; omega) Q.out.2.2.2.2.2).mono ?_; rintro e w1 ⟨rfl, hb1⟩; rw [hw'])
    go_ret2
    rw [HR.out]
    exact gives_nil (Q.out.1.trans (hb1.mono (by rw [Q.out.2.2.2.2.1]; omega)))
end Go.Proofs.Ythdflibljngjiaa

/-
  The landed Splice: layer 3.
-/
import Derived.Test.YthdflibljngjiaaRunEach
import Derived.Test.YthdflibljngjiaaRunCat
namespace Go.Proofs.Ythdflibljngjiaa
open Go.RowKit

theorem ent_splice (args : Array Value) (w : World) : Sem.run Try.prog (callFunc 42 args) w = .ok (.enter 42 args) w := by rfl

set_option maxHeartbeats 1000000 in
theorem spliceEach_any (g gl gf gm gs gt go : Nat) (A A2 : Option Addr) (c d B B2 : Nat) (l m : List RunP) (f t : Int) (hf : Fits l) (hf2 : Fits m) (hlen : l.length ≤ maxLen) (hlen2 : m.length ≤ maxLen) (hg : goodB l = true) (hg2 : goodB m = true)
    (h0 : 0 ≤ f) (h1 : f ≤ t) (h2 : t ≤ ((bytesOf l).length : Int)) (hl : (bytesOf l).length ≤ 4096) (hm : (bytesOf m).length ≤ 4096)
    (w : World) (hI : Gath w (g + 1) g []) (hB : B ≤ g) (hB2 : B2 ≤ g) (h : Row w B A (flatR l)) (hh : Row w B2 A2 (flatR m)) (bl : Blk w gl 22 #[.slice A l.length c]) (bf : Blk w gf 3 #[.int .i64 f]) (bm : Blk w gm 22 #[.slice A2 m.length d])
    (bs : Blk w gs 3 #[.int .i64 ((bytesOf m).length : Nat)]) (bt : Blk w gt 3 #[.int .i64 t]) (bo : Blk w go 3 #[.int .i64 ((bytesOf l).length : Nat)]) (kl : gl < g) (_kf : gf < g) (km : gm < g) (ks : gs < g) (kt : gt < g) (ko : go < g) :
    Calls Try.prog 42 #[.func (.func 46) #[] #[.pointer (some ⟨g, 0, none⟩)], .pointer (some ⟨gl, 0, none⟩), .pointer (some ⟨gf, 0, none⟩), .pointer (some ⟨gm, 0, none⟩), .pointer (some ⟨gs, 0, none⟩), .pointer (some ⟨gt, 0, none⟩), .pointer (some ⟨go, 0, none⟩)] w fun e w' =>
      e = .returned (.tuple #[]) ∧ Gath w' (g + 1) g ((bytesOf l).take f.toNat ++ bytesOf m ++ (bytesOf l).drop t.toNat) ∧ Below g w w' := by
  have HF := Lib.hid hf
  have HF2 := Lib.hid hf2
  clear hf hf2
  have e1 : cut (bytesOf l) 0 f = (bytesOf l).take f.toNat := cut_front
  have e2 : cut (bytesOf m) 0 ((bytesOf m).length : Nat) = bytesOf m := by rw [cut_front]; exact List.take_of_length_le (by simp)
  have e3 : cut (bytesOf l) t ((bytesOf l).length : Nat) = (bytesOf l).drop t.toNat := cut_back (by omega)
  have HE := Lib.hid (And.intro e1 (And.intro e2 e3))
  clear e1 e2 e3
  have HL1 : Hid (([] ++ cut (bytesOf l) 0 f).length ≤ 90000) := by show _ ≤ _; rw [HE.out.1, List.nil_append, List.length_take]; omega
  have HL2 : Hid ((([] ++ cut (bytesOf l) 0 f) ++ cut (bytesOf m) 0 ((bytesOf m).length : Nat)).length ≤ 90000) := by show _ ≤ _; rw [HE.out.1, HE.out.2.1, List.nil_append, List.length_append, List.length_take]; omega
  have c1 := bl.cell 0
  have c2 := bf.cell 0
  simp at c1 c2
  go_enter Try.func42, Try.ntmps42
  go_wp2_with fail
  refine (runPartAdd_any (g + 1) g A c B l 0 f HF.out hlen hg (by omega) h0 (by omega) [] (by simp) w hI hB h).mono ?_
  rintro e w1 ⟨rfl, hI1, hb1⟩
  clear c1 c2
  have c3 := (bm.below hb1.1 km).cell 0
  have c4 := (bs.below hb1.1 ks).cell 0
  simp at c3 c4
  go_wp2_with fail
  refine (runPartAdd_any (g + 1) g A2 d B2 m 0 ((bytesOf m).length : Nat) HF2.out hlen2 hg2 (by omega) (by omega) (by omega) _ HL1.out w1 hI1 hB2 (hh.below (hb1.1.mono hB2))).mono ?_
  rintro e w2 ⟨rfl, hI2, hb2⟩
  have hb12 := hb1.1.trans hb2.1
  clear c3 c4 hb1 hb2
  have c5 := (bl.below hb12 kl).cell 0
  have c6 := (bt.below hb12 kt).cell 0
  have c7 := (bo.below hb12 ko).cell 0
  simp at c5 c6 c7
  go_wp2_with fail
  refine (runPartAdd_any (g + 1) g A c B l t ((bytesOf l).length : Nat) HF.out hlen hg (by omega) h2 (by omega) _ HL2.out w2 hI2 hB (h.below (hb12.mono hB))).mono ?_
  rintro e w3 ⟨rfl, hI3, hb3⟩
  rw [HE.out.1, HE.out.2.1, HE.out.2.2, List.nil_append] at hI3
  go_wp2
  go_end0
  exact ⟨rfl, hI3, hb12.trans hb3.1⟩
end Go.Proofs.Ythdflibljngjiaa

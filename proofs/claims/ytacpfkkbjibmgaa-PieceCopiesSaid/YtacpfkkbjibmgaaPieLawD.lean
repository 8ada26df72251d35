/-
  What is done to a copy is not seen in the store, nor the other way: layer 5.
-/
import Derived.Test.YtacpfkkbjibmgaaPieOld
import Derived.Deep.RegionHeld3
import Derived.Deep.DrawnRows
import Derived.Laws.BitsLemmas
namespace Go.Proofs.Ytacpfkkbjibmgaa
open Go.RowKit
attribute [local go_sem ↓] Go.wp_at_zero Go.wp_at_succ

/-- the present store, and those that were left -/
def Forks (w1 wr : World) (g : Nat) (L : List OldR) (v4 v5 : Value) : Prop := ∃ O S b, L.length ≤ 8 ∧ Sto wr O g 4096 S b ∧ (∀ k, O k → w1.heap.size ≤ k) ∧ (∀ r ∈ L, ∀ k, O k → r.w.heap.size ≤ k) ∧ (∀ k, v4.ownBlock = some k → ¬ O k) ∧ (∀ k, v5.ownBlock = some k → ¬ O k) ∧
  Many w1 wr L v4 L.length (ptrs L) v5 L.length (txts L) ∧ Below w1.heap.size w1 wr
theorem Forks.fresh {w1 wr w' : World} {g : Nat} {L : List OldR} {v4 v5 : Value} (h : Forks w1 wr g L v4 v5) (hb : Below wr.heap.size wr w') : Forks w1 w' g L v4 v5 := by
  obtain ⟨O, S, b, h0, h1, h2, h3, h4, h5, h6, h7⟩ := h
  exact ⟨O, S, b, h0, h1.fresh hb, h2, h3, h4, h5, h6.fresh hb, h7.trans (hb.mono h7.size)⟩
theorem forks_put {w1 wr : World} {g B : Nat} {L : List OldR} {v4 v5 : Value} (h : Forks w1 wr g L v4 v5) (hB : B ≤ w1.heap.size) (A : Option Addr) (c : Nat) (X : List UInt8) (m : List RunP) (f t : Int) (hT : Txt wr B A X m) :
    Calls Try.prog 15 #[.pointer (some ⟨g, 0, none⟩), .int .i64 f, .int .i64 t, .agg #[.string ⟨X.toArray⟩, .slice A m.length c]] wr fun e w' => ∃ n : Nat, e = .returned (.int .i64 (n : Nat)) ∧ Forks w1 w' g L v4 v5 := by
  obtain ⟨O, S, b, h0, h1, h2, h3, h4, h5, h6, h7⟩ := h
  refine (stoPut_any h1 A c X m f t hT.hS hT.hf hT.hl (RowF.of_row hT.row (Nat.le_trans hB h7.size) (fun k hk h => by have := h2 k h; omega))).mono ?_
  rintro e w' ⟨O', rfl, s, p, ch⟩
  refine ⟨_, rfl, O', _, _, h0, s, fun k hk => (p k hk).elim (h2 k) (fun h => Nat.le_trans h7.size h), fun r hr k hk => (p k hk).elim (h3 r hr k) (fun h => Nat.le_trans (h6.good r hr).chg.size h), fun k hk ho => (p k ho).elim (h4 k hk) (fun h => by have := (h6.own4.lt k hk).2; omega), fun k hk ho => (p k ho).elim (h5 k hk) (fun h => by have := (h6.own5.lt k hk).2; omega), h6.put ch h3 h4 h5, h7.trans (ch.below h7.size h2)⟩

theorem wrap_near (x : Int) (h0 : -9223372036854775808 ≤ x) (h1 : x ≤ 9223372036854775807) : IntKind.i64.wrap x = x := by rw [IntKind.wrap_i64]; omega
theorem put_all {S : List UInt8} {b : List Nat} (hb : b.length = S.length) (h4 : S.length ≤ 4096) : putE S 4096 0 (S.length : Int) [] [] = 0 ∧ putS S 4096 0 (S.length : Int) [] [] = [] ∧ putB S b 4096 0 (S.length : Int) [] [] = [] := by
  have he : putE S 4096 0 (S.length : Int) [] [] = 0 := by
    unfold putE
    rw [if_pos ⟨by decide +kernel, by omega, by omega, by omega⟩, if_pos (by simp)]
  refine ⟨he, ?_, ?_⟩
  · unfold putS; rw [if_pos he]; simp
  · unfold putB; rw [if_pos he, Int.toNat_natCast, ← hb]; simp [bytesOf]
theorem Many.takes {w1 wr : World} {L : List OldR} {v4 v5 : Value} {n4 n5 : Nat} {x4 x5 : List Value} {q : Nat} (h : Many w1 wr (L.take (q + 1)) v4 n4 x4 v5 n5 x5) : Many w1 wr (L.take q) v4 n4 x4 v5 n5 x5 := by
  have hs : (L.take q).Sublist (L.take (q + 1)) := List.take_sublist_take_left (Nat.le_succ q)
  exact ⟨fun r hr => h.good r (hs.subset hr), h.own4, h.own5, fun r hr => h.p4 r (hs.subset hr), fun r hr => h.p5 r (hs.subset hr), h.ord.sublist hs, fun r hr => h.low r (hs.subset hr)⟩
theorem Many.over {w1 wr : World} {L : List OldR} {v4 v5 : Value} {n4 n5 : Nat} {x4 x5 : List Value} {q : Nat} (hq : q < L.length) (h : Many w1 wr (L.take (q + 1)) v4 n4 x4 v5 n5 x5) : ∀ r ∈ L.take q, ∀ k, (L[q]).O k → r.w.heap.size ≤ k := by
  have e : L.take (q + 1) = L.take q ++ [L[q]] := List.take_succ_eq_append_getElem hq
  have := h.ord
  rw [e, List.pairwise_append] at this
  exact fun r hr => this.2.2 r hr _ (by simp)
theorem OldR.away {r : OldR} {wr : World} (h : r.Good wr) {k : Nat} (hk : r.P k) : ¬ r.O k := fun ho => by
  rcases hk with hk | hk
  · have := h.sto.lt k ho; omega
  · exact hk.1 ho
/-- the way back: the first j of the stores that were left are as they were -/
def Downs (w1 wr : World) (L : List OldR) (v4 v5 : Value) (j : Nat) : Prop := Many w1 wr (L.take j) v4 L.length (ptrs L) v5 L.length (txts L) ∧ Below w1.heap.size w1 wr ∧ (∀ h : j < L.length, ∃ O, Sto wr O (L[j]'h).g 4096 [] [])

set_option maxRecDepth 100000 in
set_option maxHeartbeats 40000000 in
theorem pieceCopies_walk (w : World) (A : Option Addr) (c : Nat) (acs : List ActP) (_hlen : acs.length ≤ maxLen) (hA : ∀ a ∈ acs, ActOk w a) (row : Row w w.heap.size A (flatA acs)) :
    Calls Try.prog 4 #[.slice A acs.length c] w fun e w' => e = .returned (.bool true) ∧ Below w.heap.size w w' := by
  have HA := Lib.hid hA
  clear hA
  have hlen := _hlen
  unfold maxLen at hlen
  go_enter Try.func4, Try.ntmps4
  go_wp2_with (first
    | (go_at_call 8; refine (pieAlive_any _).mono ?_; rintro e w1 ⟨rfl, b1⟩)
    | (go_at_call 9; refine (stoNew_any 4096 (by omega) w1).mono ?_; rintro e w2 ⟨O2, rfl, b2, s2, o2⟩))
  have z1 := b1.size
  have B1 := Lib.hid b1
  have F2 : Hid (Forks w1 w2 w1.heap.size [] (.slice none 0 0) (.slice none 0 0)) := ⟨O2, [], [], by simp, s2, o2, fun r hr => by simp at hr, fun k hk => by simp [Value.ownBlock] at hk, fun k hk => by simp [Value.ownBlock] at hk,
    ⟨fun r hr => by simp at hr, World.ownsRow_nil _ _ _ _, World.ownsRow_nil _ _ _ _, fun r hr => by simp at hr, fun r hr => by simp at hr, List.Pairwise.nil, fun r hr => by simp at hr⟩, b2⟩
  clear b1 b2 s2 o2
  go_loopw [3, 4, 5, 6] (fun s v4 v5 i wr => ∃ (k g : Nat) (L : List OldR) (x4 x5 : Value), k ≤ acs.length ∧ i = .int .i64 k ∧ s = .pointer (some ⟨g, 0, none⟩) ∧ x4 = v4 ∧ x5 = v5 ∧ Forks w1 wr g L x4 x5) (fun _ _ _ i _ => acs.length - (intOf i).toNat)
  case atStart => exact ⟨0, _, [], _, _, Nat.zero_le _, rfl, rfl, rfl, rfl, F2.out⟩
  case round =>
    clear F2
    obtain ⟨k, g, L, v4, v5, hk, rfl, rfl, rfl, rfl, hp⟩ := hrel
    have PK := Lib.hid hp
    have zr : w1.heap.size ≤ wr.heap.size := by obtain ⟨_, _, _, _, _, _, _, _, _, _, hb⟩ := hp; exact hb.size
    have BR : Hid (Below w.heap.size w wr) := by obtain ⟨_, _, _, _, _, _, _, _, _, _, hb⟩ := hp; exact B1.out.trans (hb.mono (by omega))
    have hL8 : L.length ≤ 8 := by obtain ⟨_, _, _, h, _⟩ := hp; exact h
    obtain ⟨A4, c4, rfl⟩ : ∃ A c, v4 = .slice A L.length c := by obtain ⟨_, _, _, _, _, _, _, _, _, h, _⟩ := hp; exact own_form h.own4
    obtain ⟨A5, c5, rfl⟩ : ∃ A c, v5 = .slice A L.length c := by obtain ⟨_, _, _, _, _, _, _, _, _, h, _⟩ := hp; exact own_form h.own5
    clear hp
    by_cases hin : k < acs.length ∧ k < 50
    · obtain ⟨hlt, h50⟩ := hin
      have h50' : (k : Int) < 50 := by omega
      have hlt' : (k : Int) < (acs.length : Int) := by omega
      obtain ⟨ad, rfl, hbl, d0, d1, d2, d3, d4, d5⟩ := act_at (row.below BR.out) hlt
      have HTX := Lib.hid ((HA.out acs[k] (List.getElem_mem hlt)).txt)
      generalize acs[k] = r at *
      obtain ⟨f, t, X, A', c', m, cu, fo⟩ := r
      dsimp only at d0 d1 d2 d3 d4 d5 HTX
      have HTS : Hid (X.length ≤ maxLen ∧ m.length ≤ maxLen) := ⟨HTX.out.hS, HTX.out.hl⟩
      go_upto_region 12 with (fail)
      have hz3 : (wr.alloc (.cells #[.int .i64 f, .int .i64 t, .string ⟨X.toArray⟩, .slice A' m.length c', .bool cu, .bool fo] 32)).heap.size = wr.heap.size + 1 := by simp
      have b3 : Below wr.heap.size wr (wr.alloc (.cells #[.int .i64 f, .int .i64 t, .string ⟨X.toArray⟩, .slice A' m.length c', .bool cu, .bool fo] 32)) := (Below.refl _ wr).alloc (Nat.le_refl _) _
      have G7 := Lib.hid (Blk.new wr 32 #[.int .i64 f, .int .i64 t, .string ⟨X.toArray⟩, .slice A' m.length c', .bool cu, .bool fo])
      generalize (wr.alloc (.cells #[.int .i64 f, .int .i64 t, .string ⟨X.toArray⟩, .slice A' m.length c', .bool cu, .bool fo] 32)) = w3 at *
      have K3 := Lib.hid (PK.out.fresh b3)
      have LT : Hid (∀ k, (Value.slice A4 L.length c4).ownBlock = some k ∨ (Value.slice A5 L.length c5).ownBlock = some k → k < wr.heap.size) := by
        obtain ⟨_, _, _, _, _, _, _, _, _, h, _⟩ := PK.out
        exact fun k hk => hk.elim (fun hk => (h.own4.lt k hk).2) (fun hk => (h.own5.lt k hk).2)
      have LO : Hid (∃ O S b, Sto wr O g 4096 S b ∧ True) := by obtain ⟨O, S, b, _, h, _⟩ := PK.out; exact ⟨O, S, b, h, trivial⟩
      have B3 := Lib.hid (BR.out.trans (b3.mono (by omega)))
      have TX3 := Lib.hid (HTX.out.below B3.out)
      clear d0 d1 d2 d3 d4 d5 b3 PK LO
      obtain ⟨c0, c1, c2, c3⟩ := act_cells G7.out
      by_cases hfit : X.length ≤ 5000 ∧ m.length ≤ 5000
      · go_upto_region 13 with (go_at_call 10; refine (lawFits_any X HTS.out.1 m HTS.out.2 A' c' _).mono ?_; rw [decide_eq_true hfit]; rintro e w4 ⟨rfl, b4⟩)
        have z4 := b4.size
        have G74 := Lib.hid (G7.out.below b4 (by omega))
        have TX4 := Lib.hid (TX3.out.below (b4.mono (by omega)))
        have B4 := Lib.hid (B3.out.trans (b4.mono (by omega)))
        have K4 := Lib.hid (K3.out.fresh b4)
        clear c0 c1 c2 c3 b4 G7 B3 TX3 K3
        obtain ⟨c0, c1, c2, c3⟩ := act_cells G74.out
        have c5' : w4.cell? ⟨wr.heap.size, 5, none⟩ = some (.bool fo) := by have := G74.out.cell 5; simpa using this
        by_cases h8 : L.length < 8
        · have hd8 : (L.length : Int) < 8 := by omega
          cases fo with
          | true =>
            go_upto_region 14 with (fail)
            obtain ⟨O, S, b, h0, s4, o4, l4, n4, n5, m4, bb4⟩ := K4.out
            have M4 := Lib.hid m4
            have S4 := Lib.hid s4
            have LTO := Lib.hid s4.lt
            have z14 : w1.heap.size ≤ w4.heap.size := bb4.size
            have BB4 := Lib.hid bb4
            clear K4 m4 s4 bb4
            go_upto_region 15 with (at_builtin; refine wpList_pushA rfl _ _ _ rfl w1.heap.size 24 _ 1 8 elt_ptr 24 _ _ _ rfl M4.out.own4 [.pointer (some ⟨g, 0, none⟩)] _ rfl rfl rfl (by intro u hu; simp at hu; subst hu; rfl) (by unfold maxLen; omega) (by omega) z14 ?_; intro v6 w6 own6 ch6 at6)
            have z6 := ch6.size
            have M6 := Lib.hid (M4.out.app4 own6 ch6 at6)
            have S6 : Hid (Sto w6 O g 4096 S b) := S4.out.chgT ch6 (fun k hk hlt => by
              obtain ⟨cs, hb⟩ := own_blk_tag M4.out.own4 hk
              exact ⟨n4 k hk, _, cs, hb, by decide⟩)
            have G76 := Lib.hid (G74.out.chg ch6 (fun h => by have := LT.out _ (.inl h); omega))
            have BB6 := Lib.hid (M4.out.low4 BB4.out ch6)
            have N6 : Hid (∀ k, v6.ownBlock = some k → ¬ O k) := fun k hk ho => (at6 k hk).elim (fun h => n4 k h ho) (fun h => by have := LTO.out k ho; omega)
            clear M4 S4 G74 BB4 own6 ch6 at6 n4 c0 c1 c2 c3 c5'
            go_upto_region 16 with (first
              | (go_at_call 16; refine (stoText_any S6.out).mono ?_; rintro e w7 ⟨A8, c8, rfl, own8, b7⟩; have z7 := b7.size; have M7 := Lib.hid (M6.out.fresh b7); have S7 := Lib.hid (S6.out.fresh b7); have G77 := Lib.hid (G76.out.below b7 (by omega)); have BB7 := Lib.hid (BB6.out.trans (b7.mono BB6.out.size)); have R7 := Lib.hid own8; have z71 : w1.heap.size ≤ w7.heap.size := BB7.out.size; clear b7 own8)
              | (at_builtin; refine wpList_pushA rfl _ _ _ rfl w1.heap.size 28 _ 2 40 elt_txt 28 _ _ _ rfl M7.out.own5 [.string ⟨S.toArray⟩, .slice A8 (pack b).length c8] _ rfl rfl rfl (by intro u hu; simp at hu; rcases hu with rfl | rfl <;> rfl) (by unfold maxLen; omega) (by omega) z71 ?_; intro v8 w8 own8 ch8 at8))
            have z8 := ch8.size
            have M8 := Lib.hid (M7.out.app5 own8 ch8 at8)
            have S8 : Hid (Sto w8 O g 4096 S b) := S7.out.chgT ch8 (fun k hk hlt => by
              obtain ⟨cs, hb⟩ := own_blk_tag M7.out.own5 hk
              exact ⟨n5 k hk, _, cs, hb, by decide⟩)
            have R8 : Hid (w8.ownsRow 0 58 2 (.slice A8 (pack b).length c8) (pack b).length (flatR (pack b))) := own_base (own_chg R7.out ch8 (fun k hk h5 => own_apart M7.out.own5 R7.out (by decide) k h5 hk)) (Nat.zero_le _)
            have G78 := Lib.hid (G77.out.chg ch8 (fun h => by have := LT.out _ (.inr h); omega))
            have BB8 := Lib.hid (M7.out.low5 BB7.out ch8)
            have N8 : Hid (∀ k, v8.ownBlock = some k → ¬ O k) := fun k hk ho => (at8 k hk).elim (fun h => n5 k h ho) (fun h => by have := LTO.out k ho; omega)
            have M9 := Lib.hid (M8.out.push S8.out R8.out l4 o4 N6.out N8.out)
            obtain ⟨R, hR⟩ : ∃ R : OldR, R = ⟨w8, O, g, S, b, A8, c8⟩ := ⟨_, rfl⟩
            have hRv : R.S = S ∧ R.b = b ∧ R.A = A8 ∧ R.c = c8 := by subst hR; exact ⟨rfl, rfl, rfl, rfl⟩
            have hLL : (L ++ [R]).length = L.length + 1 := by simp
            have hPP : ptrs (L ++ [R]) = ptrs L ++ [.pointer (some ⟨g, 0, none⟩)] := by rw [ptrs_push, hR]
            have hTT : txts (L ++ [R]) = txts L ++ [.string ⟨S.toArray⟩, .slice A8 (pack b).length c8] := by rw [txts_push, hR]
            rw [← hPP, ← hTT, ← hLL, ← hR] at M9
            have HLL := Lib.hid hLL
            have HRV := Lib.hid hRv
            have ht5 := txts_at (L ++ [R]) L.length (by omega)
            have hgl : (L ++ [R])[L.length]'(by omega) = R := by simp
            rw [hgl, hRv.1, hRv.2.1, hRv.2.2.1, hRv.2.2.2] at ht5
            have HT5 := Lib.hid ht5
            clear ht5 hgl hRv hR
            clear M6 M7 M8 S6 S7 R7 G76 G77 BB6 BB7 own8 ch8 at8 hPP hTT hLL n5
            go_upto_region 17 with (go_at_call 19; refine (stoCopy_any S8.out).mono ?_; rintro e w9 ⟨g', O', rfl, b9, s9, o9⟩)
            have z9 := b9.size
            have S9 := Lib.hid s9
            have M10 := Lib.hid (M9.out.fresh b9)
            have G79 := Lib.hid (G78.out.below b9 (by omega))
            have BB9 := Lib.hid (BB8.out.trans (b9.mono BB8.out.size))
            have TX9 : Hid (Txt w9 w.heap.size A' X m) := HTX.out.below (B1.out.trans (BB9.out.mono z1))
            have K9 : Hid (Forks w1 w9 g' (L ++ [R]) v6 v8) := ⟨O', S, b, by have := HLL.out; omega, s9, fun k hk => Nat.le_trans BB8.out.size (o9 k hk), fun r hr k hk => Nat.le_trans (M9.out.good r hr).chg.size (o9 k hk), fun k hk ho => by have := (M9.out.own4.lt k hk).2; have := o9 k ho; omega, fun k hk ho => by have := (M9.out.own5.lt k hk).2; have := o9 k ho; omega, M10.out, BB9.out⟩
            obtain ⟨g5, c9, rfl⟩ : ∃ g5 c9, v8 = .slice (some ⟨g5, 0, none⟩) (L.length + 1) c9 := by
              rcases M10.out.own5.2 with ⟨_, h⟩ | ⟨g5, cap, cur, h, _⟩
              · have := HLL.out; omega
              · exact ⟨g5, cap, by rw [h, HLL.out]⟩
            have q0 : w9.cell? ⟨g5, L.length * 2, none⟩ = some (.string ⟨S.toArray⟩) := by
              have h := M10.out.own5
              rw [HLL.out] at h
              rw [h.cellAt (L.length * 2) (by omega)]; exact HT5.out.1
            have q1 : w9.cell? ⟨g5, L.length * 2 + 1, none⟩ = some (.slice A8 (pack b).length c8) := by
              have h := M10.out.own5
              rw [HLL.out] at h
              rw [h.cellAt (L.length * 2 + 1) (by omega)]; exact HT5.out.2
            have hg5 : g5 < w9.heap.size := (M10.out.own5.lt g5 rfl).2
            have KC : Hid (∀ w', Below w9.heap.size w9 w' → w'.cell? ⟨g5, L.length * 2, none⟩ = some (.string ⟨S.toArray⟩) ∧ w'.cell? ⟨g5, L.length * 2 + 1, none⟩ = some (.slice A8 (pack b).length c8)) := fun w' h => ⟨(h.cell (p := ⟨g5, L.length * 2, none⟩) hg5).trans q0, (h.cell (p := ⟨g5, L.length * 2 + 1, none⟩) hg5).trans q1⟩
            have B0 : Hid (Below w9.heap.size w9 w9) := Below.refl _ _
            have BD : Hid (Below w9.heap.size w9 (w9.drewN 1)) := below_drewN (Below.refl _ w9) 1
            have T9 : Hid (Txt w9 w9.heap.size A8 S (pack b)) := by
              have hg := (M10.out.good R (by simp)).text
              rw [HRV.out.1, HRV.out.2.1, HRV.out.2.2.1] at hg
              exact hg
            have hww := wrap_small (L.length : Int) (by omega) (by omega)
            have hb0 : (0 : Int) ≤ (L.length : Int) := by omega
            have hb1 : (L.length : Int) < (L.length : Int) + 1 := by omega
            clear q0 q1 M9 S8 R8 G78 BB8 M10
            go_cut [63] (fun s63 wx => s63 = .bool false ∧ Below w9.heap.size w9 wx)
            case first =>
              go_region_held3 (fun w' => w'.cell? ⟨g5, L.length * 2, none⟩ = some (.string ⟨S.toArray⟩) ∧ w'.cell? ⟨g5, L.length * 2 + 1, none⟩ = some (.slice A8 (pack b).length c8))
                (first | exact KC.out _ BX.out | exact KC.out _ BD.out | exact KC.out _ B0.out)
                (first
                  | (go_at_call 16; refine (stoText_any (S9.out.fresh BD.out)).mono ?_; rintro e wx ⟨A9, c10, rfl, own9, bx⟩; have BX : Hid (Below w9.heap.size w9 wx) := BD.out.trans (bx.mono BD.out.size); have T10 : Hid (Txt wx wx.heap.size A9 S (pack b)) := ⟨T9.out.hS, T9.out.hf, T9.out.hl, Row.of_own own9⟩; clear bx own9)
                  | (go_at_call 13; refine (refTSame_any A9 A8 c10 c8 _ w9.heap.size S S (pack b) (pack b) _ (Nat.le_refl _) BX.out.size T10.out (T9.out.below BX.out)).mono ?_; rw [decide_eq_true ⟨rfl, rfl⟩]; rintro e wx ⟨rfl, bx⟩; have BX : Hid (Below w9.heap.size w9 wx) := BX.out.trans (bx.mono BX.out.size); clear bx))
              all_goals
                go_wp2_with fail
                go_meet
                exact ⟨rfl, BX.out⟩
            case rest =>
              obtain ⟨rfl, BX⟩ := hcut
              have BX := Lib.hid BX
              have KX := Lib.hid (K9.out.fresh BX.out)
              have GX := Lib.hid (G79.out.below BX.out (by omega))
              have TXX := Lib.hid (TX9.out.below (BX.out.mono (by omega)))
              clear KC B0 BD T9 K9 G79 TX9 S9 BB9
              obtain ⟨c0, c1, c2, c3⟩ := act_cells GX.out
              go_wp2_with (go_at_call 15; refine (forks_put KX.out z1 A' c' X m f t TXX.out).mono ?_; rintro e wp ⟨np, rfl, kp⟩)
              go_roundw
              case rel => exact ⟨k + 1, g', (L ++ [R]), _, _, by omega, by go_num, rfl, rfl, rfl, kp⟩
              case measure => simp [intOf]; omega
          | false =>
            obtain ⟨c0, c1, c2, c3⟩ := act_cells G74.out
            go_wp2_with (go_at_call 15; refine (forks_put K4.out z1 A' c' X m f t TX4.out).mono ?_; rintro e wp ⟨np, rfl, kp⟩)
            go_roundw
            case rel => exact ⟨k + 1, g, L, _, _, by omega, by go_num, rfl, rfl, rfl, kp⟩
            case measure => simp [intOf]; omega
        · cases fo with
          | true =>
            obtain ⟨c0, c1, c2, c3⟩ := act_cells G74.out
            go_wp2_with (go_at_call 15; refine (forks_put K4.out z1 A' c' X m f t TX4.out).mono ?_; rintro e wp ⟨np, rfl, kp⟩)
            go_roundw
            case rel => exact ⟨k + 1, g, L, _, _, by omega, by go_num, rfl, rfl, rfl, kp⟩
            case measure => simp [intOf]; omega
          | false =>
            obtain ⟨c0, c1, c2, c3⟩ := act_cells G74.out
            go_wp2_with (go_at_call 15; refine (forks_put K4.out z1 A' c' X m f t TX4.out).mono ?_; rintro e wp ⟨np, rfl, kp⟩)
            go_roundw
            case rel => exact ⟨k + 1, g, L, _, _, by omega, by go_num, rfl, rfl, rfl, kp⟩
            case measure => simp [intOf]; omega
      · go_wp2_with (go_at_call 10; refine (lawFits_any X HTS.out.1 m HTS.out.2 A' c' _).mono ?_; rw [decide_eq_false hfit]; rintro e w4 ⟨rfl, b4⟩)
        go_roundw
        case rel => exact ⟨k + 1, g, L, _, _, by omega, by go_num, rfl, rfl, rfl, K3.out.fresh b4⟩
        case measure => simp [intOf]; omega
    · have hout : (¬ (k : Int) < (acs.length : Int)) ∨ ((k : Int) < (acs.length : Int) ∧ ¬ (k : Int) < 50) := by omega
      have hz0 := wrap_near ((L.length : Int) - 1) (by omega) (by omega)
      have D0 : Hid (Downs w1 wr L (.slice A4 L.length c4) (.slice A5 L.length c5) L.length) := by
        obtain ⟨_, _, _, _, _, _, _, _, _, hm, hb⟩ := PK.out
        exact ⟨by rw [List.take_length]; exact hm, hb, fun h => absurd h (Nat.lt_irrefl _)⟩
      clear PK HA row
      rcases hout with hx | ⟨hx, hy⟩
      all_goals
        go_wp2_with fail
        go_loopw [8] (fun i wr => ∃ (j : Nat) (x8 : Value), j ≤ L.length ∧ x8 = i ∧ x8 = .int .i64 ((j : Int) - 1) ∧ Downs w1 wr L (.slice A4 L.length c4) (.slice A5 L.length c5) j) (fun i _ => (intOf i + 1).toNat)
        case atStart => exact ⟨L.length, _, Nat.le_refl _, rfl, rfl, D0.out⟩
        case round =>
          clear D0
          obtain ⟨j, x8, hj, rfl, hx8, hd⟩ := hrel
          have DK := Lib.hid hd
          clear hd
          rcases j with _ | q
          · obtain rfl : x8 = .int .i64 (-1) := by rw [hx8]; rfl
            clear hx8
            obtain ⟨hm, hb, hnx⟩ := DK.out
            have BE : Hid (Below w.heap.size w wr) := B1.out.trans (hb.mono z1)
            have zb := hb.size
            by_cases hL0 : L.length = 0
            · clear DK hm hb hnx
              go_wp2_with fail
              go_ret
              exact ⟨rfl, BE.out⟩
            · have hlp : 0 < L.length := by omega
              obtain ⟨g4, rfl⟩ : ∃ g4, A4 = some ⟨g4, 0, none⟩ := by
                rcases hm.own4.2 with ⟨_, h⟩ | ⟨g4, _, _, h, _⟩
                · omega
                · injection h with h1; exact ⟨g4, h1⟩
              have q0 : wr.cell? ⟨g4, 0, none⟩ = some (.pointer (some ⟨(L[0]).g, 0, none⟩)) := (hm.own4.cellAt 0 (by omega)).trans (ptrs_at L 0 hlp)
              obtain ⟨O0, s0⟩ := hnx hlp
              have S0 := Lib.hid s0
              have hd0 : ¬ (L.length : Int) = 0 := by omega
              have hd1 : ((L.length : Int) == 0) = false := by simpa using hL0
              have hd2 : (0 : Int) < (L.length : Int) := by omega
              clear DK hm hb hnx s0
              go_wp2_with (go_at_call 17; refine (stoLen_any S0.out).mono ?_; rintro e w9 ⟨rfl, b9⟩)
              go_ret
              exact ⟨rfl, BE.out.trans (b9.mono (by omega))⟩
          · obtain rfl : x8 = .int .i64 (q : Int) := by rw [hx8]; congr 1; omega
            clear hx8
            have hq : q < L.length := by omega
            have hq0 : (0 : Int) ≤ (q : Int) := by omega
            have hq1 : (q : Int) < (L.length : Int) := by omega
            have hwq := wrap_near ((q : Int) - 1) (by omega) (by omega)
            obtain ⟨hm, hb, hnx⟩ := DK.out
            obtain ⟨g4, rfl⟩ : ∃ g4, A4 = some ⟨g4, 0, none⟩ := by
              rcases hm.own4.2 with ⟨_, h⟩ | ⟨g4, _, _, h, _⟩
              · omega
              · injection h with h1; exact ⟨g4, h1⟩
            obtain ⟨g5, rfl⟩ : ∃ g5, A5 = some ⟨g5, 0, none⟩ := by
              rcases hm.own5.2 with ⟨_, h⟩ | ⟨g5, _, _, h, _⟩
              · omega
              · injection h with h1; exact ⟨g5, h1⟩
            have hin : L[q] ∈ L.take (q + 1) := by rw [List.take_succ_eq_append_getElem hq]; exact List.mem_append_right _ (List.mem_singleton.2 rfl)
            have HM := Lib.hid hm
            have HB := Lib.hid hb
            have SR := Lib.hid (hm.good _ hin).now
            have TR := Lib.hid (hm.good _ hin).text
            have HOV := Lib.hid (hm.over hq)
            have A4N : Hid (¬ (L[q]).O g4) := OldR.away (hm.good _ hin) (hm.p4 _ hin g4 rfl)
            have A5N : Hid (¬ (L[q]).O g5) := OldR.away (hm.good _ hin) (hm.p5 _ hin g5 rfl)
            have LOW := Lib.hid (hm.low _ hin)
            have q0 : wr.cell? ⟨g4, q, none⟩ = some (.pointer (some ⟨(L[q]).g, 0, none⟩)) := (hm.own4.cellAt q (by omega)).trans (ptrs_at L q hq)
            have q1 : wr.cell? ⟨g5, q * 2, none⟩ = some (.string ⟨(L[q]).S.toArray⟩) := (hm.own5.cellAt (q * 2) (by omega)).trans (txts_at L q hq).1
            have q2 : wr.cell? ⟨g5, q * 2 + 1, none⟩ = some (.slice (L[q]).A (pack (L[q]).b).length (L[q]).c) := (hm.own5.cellAt (q * 2 + 1) (by omega)).trans (txts_at L q hq).2
            have hg4 : g4 < wr.heap.size := (hm.own4.lt g4 rfl).2
            have hg5 : g5 < wr.heap.size := (hm.own5.lt g5 rfl).2
            have HL := Lib.hid SR.out.lens
            clear DK hm hb hnx hin
            generalize hR : L[q] = R at *
            obtain ⟨wR, OR, gR, S, b, AR, cR⟩ := R
            dsimp only at SR TR HOV A4N A5N LOW q0 q1 q2 HL
            have KC : Hid (∀ w', Below wr.heap.size wr w' → w'.cell? ⟨g4, q, none⟩ = some (.pointer (some ⟨gR, 0, none⟩)) ∧ w'.cell? ⟨g5, q * 2, none⟩ = some (.string ⟨S.toArray⟩) ∧ w'.cell? ⟨g5, q * 2 + 1, none⟩ = some (.slice AR (pack b).length cR)) := fun w' h => ⟨(h.cell (p := ⟨g4, q, none⟩) hg4).trans q0, (h.cell (p := ⟨g5, q * 2, none⟩) hg5).trans q1, (h.cell (p := ⟨g5, q * 2 + 1, none⟩) hg5).trans q2⟩
            have B0 : Hid (Below wr.heap.size wr wr) := Below.refl _ _
            have BD : Hid (Below wr.heap.size wr (wr.drewN 1)) := below_drewN (Below.refl _ wr) 1
            clear q0 q1 q2
            go_upto_region 23 with (fail)
            go_cut [89] (fun s89 wx => s89 = .bool false ∧ Below wr.heap.size wr wx)
            case first =>
              go_region_held3 (fun w' => w'.cell? ⟨g4, q, none⟩ = some (.pointer (some ⟨gR, 0, none⟩)) ∧ w'.cell? ⟨g5, q * 2, none⟩ = some (.string ⟨S.toArray⟩) ∧ w'.cell? ⟨g5, q * 2 + 1, none⟩ = some (.slice AR (pack b).length cR))
                (first | exact KC.out _ BX.out | exact KC.out _ BD.out | exact KC.out _ B0.out)
                (first
                  | (go_at_call 16; refine (stoText_any (SR.out.fresh BD.out)).mono ?_; rintro e wx ⟨A9, c10, rfl, own9, bx⟩; have BX : Hid (Below wr.heap.size wr wx) := BD.out.trans (bx.mono BD.out.size); have T10 : Hid (Txt wx wx.heap.size A9 S (pack b)) := ⟨TR.out.hS, TR.out.hf, TR.out.hl, Row.of_own own9⟩; clear bx own9)
                  | (go_at_call 13; refine (refTSame_any A9 AR c10 cR _ wr.heap.size S S (pack b) (pack b) _ (Nat.le_refl _) BX.out.size T10.out (TR.out.below BX.out)).mono ?_; rw [decide_eq_true ⟨rfl, rfl⟩]; rintro e wx ⟨rfl, bx⟩; have BX : Hid (Below wr.heap.size wr wx) := BX.out.trans (bx.mono BX.out.size); clear bx))
              all_goals
                go_wp2_with fail
                go_meet
                exact ⟨rfl, BX.out⟩
            case rest =>
              obtain ⟨rfl, BX⟩ := hcut
              have BX := Lib.hid BX
              have SC := Lib.hid (SR.out.fresh BX.out)
              have HC := Lib.hid ((HM.out.fresh BX.out).takes)
              have HBC := Lib.hid (HB.out.trans (BX.out.mono HB.out.size))
              have PA := Lib.hid (put_all (b := b) HL.out.1 HL.out.2.1)
              have KD : Hid (∀ w', Chg OR wc w' → w'.cell? ⟨g4, q, none⟩ = some (.pointer (some ⟨gR, 0, none⟩))) := fun w' h => (World.cell?_of_block (h.block g4 (Nat.lt_of_lt_of_le hg4 BX.out.size) A4N.out)).trans (KC.out _ BX.out).1
              have C0 : Hid (Chg OR wc wc) := Chg.refl _ _
              have CD : Hid (Chg OR wc (wc.drewN 1)) := (Chg.refl _ _).drewN 1
              have BDC : Hid (Below wc.heap.size wc (wc.drewN 1)) := below_drewN (Below.refl _ wc) 1
              clear SR TR HM HB KC B0 BD BX
              go_upto_region 25 with (fail)
              go_region_held3 (fun w' => w'.cell? ⟨g4, q, none⟩ = some (.pointer (some ⟨gR, 0, none⟩)))
                (first | exact KD.out _ CX.out | exact KD.out _ CD.out | exact KD.out _ C0.out)
                (first
                  | (go_at_call 17; refine (stoLen_any (SC.out.fresh BDC.out)).mono ?_; rintro e wx ⟨rfl, bx⟩; have BX : Hid (Below wc.heap.size wc wx) := BDC.out.trans (bx.mono BDC.out.size); have CX : Hid (Chg OR wc wx) := Chg.of_fresh BX.out; clear bx)
                  | (go_at_call 15; refine (stoPut_any (SC.out.fresh BX.out) none 0 [] [] 0 (S.length : Int) (by simp) (by intro r hr; simp at hr) (by simp) (.inl rfl)).mono ?_; rw [PA.out.1, PA.out.2.1, PA.out.2.2]; rintro e wy ⟨OY, rfl, sy, py, chy⟩; have CX : Hid (Chg OR wc wy) := CX.out.trans chy; have SY := Lib.hid sy; clear sy py chy))
              all_goals
                have hdn : Downs w1 wy L (.slice (some ⟨g4, 0, none⟩) L.length c4) (.slice (some ⟨g5, 0, none⟩) L.length c5) q := by
                  refine ⟨HC.out.put CX.out HOV.out (fun k hk => ?_) (fun k hk => ?_), HBC.out.trans (CX.out.below HBC.out.size LOW.out), fun h => ⟨OY, ?_⟩⟩
                  · injection hk with hk; subst hk; exact A4N.out
                  · injection hk with hk; subst hk; exact A5N.out
                  · rw [hR]; exact SY.out
                have HDN := Lib.hid hdn
                clear hdn
                go_wp2_with fail
                go_roundw
                case rel => exact ⟨q, _, by omega, rfl, rfl, HDN.out⟩
                case measure => simp [intOf]
end Go.Proofs.Ytacpfkkbjibmgaa

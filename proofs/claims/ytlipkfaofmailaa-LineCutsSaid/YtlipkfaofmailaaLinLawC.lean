/-
  The walk of a statement of layer 6, from what package line's functions answer: LineCuts.
-/
import Derived.Test.YtlipkfaofmailaaLinSays
import Derived.Test.YtlipkfaofmailaaLinApart
import Derived.Test.YtlipkfaofmailaaLinAppend
import Derived.Deep.RegionHeld3
import Derived.Deep.RegionLaw
import Derived.Deep.DeepCutAuto
import Derived.BigQuiet
namespace Go.Proofs.Ytlipkfaofmailaa
open Go.RowKit

theorem own_some {w : World} {base e size n c : Nat} {A : Option Addr} {xs : List Value} (h : w.ownsRow base e size (.slice A n c) n xs) (hn : 0 < n) : ∃ g, A = some ⟨g, 0, none⟩ ∧ n ≤ c := by
  rcases h.2 with ⟨_, h0⟩ | ⟨g, cap, cur, hv, _, _, hc, _⟩
  · omega
  · injection hv with h1 h2 h3
    exact ⟨g, h1, by rw [h3]; exact hc⟩
theorem below_of_drew {B : Nat} {w w' : World} (h : Below B w.drew w') : Below B w w' := ⟨h.os, h.tape, h.output, h.size, h.block⟩
attribute [local irreducible] boundsL countL wholeL ofL colAt placeL firstL linesOf

set_option maxRecDepth 100000 in
set_option maxHeartbeats 2000000 in
theorem lineCuts_walk (L : LineSays) (w : World) (S : List UInt8) (a b : Int) :
    Calls Try.prog 8 #[.string ⟨S.toArray⟩, .int .i64 a, .int .i64 b] w fun e w' => e = .returned (.bool true) ∧ Below w.heap.size w w' := by
  have HL := Lib.hid L
  clear L
  by_cases hmost : 2048 < S.length
  · go_enter Try.func8, Try.ntmps8
    go_wp2_with (go_at_call 9; refine (lineAlive_any HL.out _).mono ?_; rintro e w1 ⟨rfl, b1⟩)
    go_ret
    exact ⟨rfl, b1⟩
  · have hs : S.length ≤ 1000000 := by omega
    by_cases hgood : 0 ≤ a ∧ a ≤ b ∧ b < (countL S : Int)
    · obtain ⟨A, rfl⟩ : ∃ A : Nat, a = (A : Int) := ⟨a.toNat, by omega⟩
      obtain ⟨B, rfl⟩ : ∃ B : Nat, b = (B : Int) := ⟨b.toNat, by omega⟩
      obtain ⟨F, T, h1, h2, h3, h4⟩ := cut_lines (S := S) (a := A) (b := B) (by omega) (by omega)
      have HW := Lib.hid h1
      have H4 := Lib.hid h4
      have hlen := linesOf_count S
      have hcl := countL_le S
      have HLF : Hid (leftL S A B = if (linesOf S).take A ++ (linesOf S).drop (B + 1) = [] then [[]] else (linesOf S).take A ++ (linesOf S).drop (B + 1)) := rfl
      have HTX := Lib.hid (text_slice S 0 F (Nat.zero_le _))
      have HTT := Lib.hid (text_tail S T)
      have HLN := Lib.hid hlen
      clear h1 h4 hlen
      go_enter Try.func8, Try.ntmps8
      go_upto_region 8 with (first
        | (go_at_call 9; refine (lineAlive_any HL.out _).mono ?_; rintro e w1 ⟨rfl, b1⟩)
        | (go_at_call 22; refine (HL.out.whole S (A : Int) (B : Int) _ hs).mono ?_; rintro e w2 ⟨rfl, b2⟩; rw [HW.out]))
      have BX := Lib.hid (b1.trans (b2.mono b1.size))
      clear b1 b2
      have hF0 : (F : Int) ≤ (S.length : Int) := by omega
      have hT0 : (T : Int) ≤ (S.length : Int) := by omega
      have hns : (S.take F ++ S.drop T).length ≤ 1000000 := by rw [List.length_append, List.length_take, List.length_drop]; omega
      obtain ⟨N, hN⟩ : ∃ N, S.take F ++ S.drop T = N := ⟨_, rfl⟩
      rw [hN] at hns
      have HNN : Hid ((({ data := S.toArray } : ByteArray).extract 0 F ++ ({ data := S.toArray } : ByteArray).extract T S.length) = ⟨N.toArray⟩) := by
        show _ = _
        rw [HTX.out, HTT.out, ← hN]
        apply ByteArray.ext
        rw [ByteArray.data_append]
        simp
      have H5 : Hid (linesOf N = leftL S A B) := by have := H4.out; rw [hN] at this; exact this
      clear hN H4
      go_cut [10, 11] (fun o n wx => ∃ A1 c1 A2 c2, o = .slice A1 (linesOf S).length c1 ∧ n = .slice A2 (linesOf N).length c2 ∧ wx.ownsRow w.heap.size 9 1 (.slice A1 (linesOf S).length c1) (linesOf S).length ((linesOf S).map strv) ∧ wx.ownsRow w.heap.size 9 1 (.slice A2 (linesOf N).length c2) (linesOf N).length ((linesOf N).map strv) ∧ Below w.heap.size w wx)
      case first =>
        have hfit : ¬ 9223372036854775807 < min F S.length + (S.length - T) := by omega
        have hz2 := BX.out.size
        have BD := Lib.hid (below_drewN BX.out 1)
        go_region_held3 (fun _ => True) (trivial) (first
          | (go_at_call_of 25 (Value.string ⟨S.toArray⟩); refine (refLines_any S hs _).mono ?_; rintro e w3 ⟨A1, c1, rfl, ho1, b3⟩)
          | (go_at_call 25; rw [HNN.out]; refine (refLines_any N hns _).mono ?_; rintro e w4 ⟨A2, c2, rfl, ho2, b4⟩))
        all_goals
          go_wp2_with fail
          go_meet
          have hd : w.heap.size ≤ (w2.drewN 1).heap.size := hz2
          first
            | (exact ⟨A1, c1, A2, c2, rfl, rfl, own_base (own_keep ho1 b4 (Nat.le_refl _)) hd, own_base ho2 (Nat.le_trans hd b3.size), BD.out.trans ((b3.mono hd).trans (b4.mono (Nat.le_trans hd b3.size)))⟩; done)
            | exact ⟨A1, c1, A2, c2, rfl, rfl, own_base ho1 (Nat.le_trans hd b4.size), own_base (own_keep ho2 b3 (Nat.le_refl _)) hd, BD.out.trans ((b4.mono hd).trans (b3.mono (Nat.le_trans hd b4.size)))⟩
      case rest =>
        obtain ⟨A1, c1, A2, c2, rfl, rfl, ho1, ho2, bx⟩ := hcut
        rename World => wx
        have hAB : A ≤ B := by omega
        have hBn : B + 1 ≤ (linesOf S).length := by rw [HLN.out]; omega
        have hcl2 : (linesOf S).length ≤ 2049 := by rw [HLN.out]; omega
        obtain ⟨g, rfl, hcap⟩ := own_some ho1 (by omega)
        have HR1 := Lib.hid (Row.of_own ho1)
        have HR2 := Lib.hid (Row.of_own ho2)
        have BX := Lib.hid bx
        obtain ⟨n, hn⟩ : ∃ n, (linesOf S).length = n := ⟨_, rfl⟩
        have HN := Lib.hid hn
        rw [hn] at hBn hcap hcl2
        have LA : Hid (((linesOf S).take A).length = A) := by show _ = _; rw [List.length_take, hn]; omega
        have LB : Hid (((linesOf S).drop (B + 1)).length = n - (B + 1)) := by show _ = _; rw [List.length_drop, hn]
        rw [hn]
        clear ho1 ho2 bx hn
        have SA : Hid (Src Try.prog 1 35 (.slice (some ⟨g, 0, none⟩) A c1) A (((linesOf S).take A).map strv) wx.drew) := by
          refine Src.ofSlice _ Try.underlying35 ⟨g, 0, none⟩ A c1 _ (by rw [List.length_map, LA.out, Nat.mul_one]) (fun j u hj => ?_) (fun u hu => by obtain ⟨_, _, rfl⟩ := List.mem_map.1 hu; rfl)
          rw [List.getElem?_map] at hj
          have hjA : j < A := by
            rcases Nat.lt_or_ge j A with h | h
            · exact h
            · rw [List.getElem?_eq_none (by rw [LA.out]; exact h)] at hj; cases hj
          rw [List.getElem?_take_of_lt hjA] at hj
          obtain ⟨ad, h1, _, h2⟩ := HR1.out.at_ (k := j) (u := u) (by rw [List.getElem?_map]; exact hj)
          obtain rfl := Option.some.inj h1
          exact h2
        have SB : Hid (∀ (c : Nat) (w5 : World), Below wx.heap.size wx.drew w5 → Src Try.prog 1 35 (.slice (some ⟨g, B + 1, none⟩) (n - (B + 1)) c) (n - (B + 1)) (((linesOf S).drop (B + 1)).map strv) w5) := by
          intro c w5 b5
          refine Src.ofSlice _ Try.underlying35 ⟨g, B + 1, none⟩ (n - (B + 1)) c _ (by rw [List.length_map, LB.out, Nat.mul_one]) (fun j u hj => ?_) (fun u hu => by obtain ⟨_, _, rfl⟩ := List.mem_map.1 hu; rfl)
          rw [List.getElem?_map, List.getElem?_drop] at hj
          obtain ⟨ad, h1, _, h2⟩ := (HR1.out.drew.below b5).at_ (k := B + 1 + j) (u := u) (by rw [List.getElem?_map]; exact hj)
          obtain rfl := Option.some.inj h1
          rw [← h2]
          by_cases hj0 : j = 0
          · subst hj0; simp [Addr.add]
          · simp [Addr.add, hj0]
        have hA0 : (0 : Int) ≤ (A : Int) := by omega
        have hA1 : (A : Int) ≤ (c1 : Int) := by omega
        have hB0 : (0 : Int) ≤ (B : Int) + 1 := by omega
        have hB1 : (B : Int) + 1 ≤ (n : Int) := by omega
        have hB2 : (B : Int) + 1 ≤ (c1 : Int) := by omega
        have hwB := wrap_small ((B : Int) + 1) (by omega) (by omega)
        go_upto_region 9 with (fail)
        go_cut [12] (fun v wy => ∃ A3 c3, v = .slice A3 (A + (n - (B + 1))) c3 ∧ wy.ownsRow wx.heap.size 9 1 (.slice A3 (A + (n - (B + 1))) c3) (A + (n - (B + 1))) (((linesOf S).take A ++ (linesOf S).drop (B + 1)).map strv) ∧ Below wx.heap.size wx wy)
        case first =>
          by_cases hc : c1 = B + 1
          · subst hc
            obtain rfl : n = B + 1 := by omega
            have hA2 : (A : Int) ≤ (B : Int) + 1 := by omega
            have LC : Hid ((linesOf S).drop (B + 1) = []) := List.eq_nil_of_length_eq_zero (by rw [LB.out]; omega)
            have SC : Hid (∀ w5 : World, Src Try.prog 1 35 (.slice (some ⟨g, 0, none⟩) 0 0) 0 [] w5) := fun w5 => Src.ofSlice _ Try.underlying35 ⟨g, 0, none⟩ 0 0 [] rfl (fun j u hj => by simp at hj) (fun u hu => by cases hu)
            go_region_law (first
              | (refine step_append_own rfl (.const (.slice none 0 0)) (.tmp 54) 35 rfl wx.heap.size 9 _ 16 elt_str (.slice none 0 0) 0 [] (by simp [Act.eval]) (World.ownsRow_nil _ _ _ _) (.slice (some ⟨g, 0, none⟩) A (B + 1)) A (((linesOf S).take A).map strv) (by simp [Act.eval, Act.put]) SA.out (by unfold maxLen; omega) (by omega) (Nat.le_refl _) ?_; intro v5 w5 ho5 b5)
              | (refine step_append_own rfl (.tmp 55) (.tmp 59) 35 rfl wx.heap.size 9 _ 16 elt_str v5 (0 + A) _ (by simp [Act.eval]) ho5 (.slice (some ⟨g, 0, none⟩) 0 0) 0 [] (by simp [Act.eval]) (SC.out _) (by unfold maxLen; omega) (by omega) b5.size ?_; intro v6 w6 ho6 b6))
            all_goals
              go_wp2_with fail
              go_meet
              rw [Nat.zero_add, Nat.add_zero, List.nil_append, List.append_nil] at ho6
              obtain ⟨A3, c3, rfl⟩ := own_form ho6
              exact ⟨A3, c3, by rw [Nat.sub_self]; rfl, by rw [Nat.sub_self, LC.out, List.append_nil]; exact ho6, below_of_drew (b5.trans b6)⟩
          · go_region_law (first
              | (refine step_append_own rfl (.const (.slice none 0 0)) (.tmp 54) 35 rfl wx.heap.size 9 _ 16 elt_str (.slice none 0 0) 0 [] (by simp [Act.eval]) (World.ownsRow_nil _ _ _ _) (.slice (some ⟨g, 0, none⟩) A c1) A (((linesOf S).take A).map strv) (by simp [Act.eval, Act.put]) SA.out (by unfold maxLen; omega) (by omega) (Nat.le_refl _) ?_; intro v5 w5 ho5 b5)
              | (refine step_append_own rfl (.tmp 55) (.tmp 59) 35 rfl wx.heap.size 9 _ 16 elt_str v5 (0 + A) _ (by simp [Act.eval]) ho5 (.slice (some ⟨g, B + 1, none⟩) (n - (B + 1)) (c1 - (B + 1))) (n - (B + 1)) (((linesOf S).drop (B + 1)).map strv) (by simp [Act.eval]) (SB.out _ _ b5) (by unfold maxLen; omega) (by omega) b5.size ?_; intro v6 w6 ho6 b6))
            all_goals
              go_wp2_with fail
              go_meet
              rw [Nat.zero_add, List.nil_append, ← List.map_append] at ho6
              obtain ⟨A3, c3, rfl⟩ := own_form ho6
              exact ⟨A3, c3, rfl, ho6, below_of_drew (b5.trans b6)⟩
        case rest =>
          obtain ⟨A3, c3, rfl, ho3, by3⟩ := hcut
          rename World => wy
          have HR3 := Lib.hid (Row.of_own ho3)
          have HR4 := Lib.hid (HR2.out.below by3)
          have BY := Lib.hid by3
          have hXm : ((linesOf S).take A ++ (linesOf S).drop (B + 1)).length = A + (n - (B + 1)) := by rw [List.length_append, LA.out, LB.out]
          generalize (linesOf S).take A ++ (linesOf S).drop (B + 1) = X at *
          have HXM := Lib.hid hXm
          have hm2 : A + (n - (B + 1)) ≤ 2049 := by omega
          obtain ⟨m, hm⟩ : ∃ m, A + (n - (B + 1)) = m := ⟨_, rfl⟩
          rw [hm] at HXM hm2
          rw [hm]
          have H6 : Hid (linesOf N = if X = [] then [[]] else X) := H5.out.trans HLF.out
          clear ho3 by3 hXm hm HLF H5 SA SB LA LB
          go_upto_if 63 with (fail)
          go_cut [12] (fun v wz => ∃ A4 c4, v = .slice A4 (linesOf N).length c4 ∧ Row wz wz.heap.size A4 ((linesOf N).map strv) ∧ Below wy.heap.size wy wz)
          case first =>
            by_cases hm0 : m = 0
            · subst hm0
              have H7 : Hid (linesOf N = [[]]) := H6.out.trans (if_pos (List.eq_nil_of_length_eq_zero HXM.out))
              go_wp2_with fail
              go_meet
              exact ⟨some ⟨wy.heap.size, 0, none⟩, 1, by rw [H7.out]; rfl, by rw [H7.out]; have := row_newL wy 9 [strv []]; rw [World.size_alloc]; exact this, (Below.refl _ _).alloc (Nat.le_refl _) _⟩
            · have H7 : Hid (linesOf N = X) := H6.out.trans (if_neg fun h => hm0 (by rw [← HXM.out, h]; rfl))
              have hm1 : ((m : Int) == 0) = false := by simpa using hm0
              go_wp2_with fail
              go_meet
              exact ⟨A3, c3, by rw [H7.out, HXM.out], by rw [H7.out]; exact HR3.out, Below.refl _ _⟩
          case rest =>
            obtain ⟨A4, c4, rfl, hr4, bz⟩ := hcut
            rename World => wz
            have HR5 := Lib.hid (HR4.out.below (bz.mono (Nat.le_trans BY.out.size (Nat.le_refl _))))
            have HR6 := Lib.hid hr4
            have hzy := bz.size
            have hzx := BY.out.size
            have BZ := Lib.hid ((BX.out.trans (BY.out.mono BX.out.size)).trans (bz.mono (Nat.le_trans BX.out.size BY.out.size)))
            have hY : (linesOf N).length ≤ 1000001 := by rw [linesOf_count]; have := countL_le N; omega
            have BW := Lib.hid hzx
            clear hr4 bz HR4 HR3 BY H6 HXM HR1 HR2
            generalize linesOf N = Y at *
            go_wp2_with fail
            go_loopw [72] (fun i wr => ∃ k : Nat, k ≤ Y.length ∧ i = .int .i64 k ∧ Row wr wz.heap.size A4 (Y.map strv) ∧ Row wr wx.heap.size A2 (Y.map strv) ∧ Below wz.heap.size wz wr) (fun i _ => Y.length - (intOf i).toNat)
            case atStart => exact ⟨0, Nat.zero_le _, rfl, HR6.out, HR5.out, Below.refl _ _⟩
            case round =>
              obtain ⟨k, hk, rfl, h1, h2, hb⟩ := hrel
              by_cases hlt : k < Y.length
              · obtain ⟨ad, rfl, hbl1, hcell1⟩ := h1.map_at hlt
                obtain ⟨ae, rfl, hbl2, hcell2⟩ := h2.map_at hlt
                unfold strv at hcell1 hcell2
                have hI : (k : Int) < (Y.length : Int) := by omega
                have hI0 : (0 : Int) ≤ (k : Int) := by omega
                generalize Y[k] = z at *
                go_wp2_with fail
                go_quiet (fail)
                go_wp2
                go_roundw
                case rel => exact ⟨k + 1, by omega, by go_num, h1.drewN _, h2.drewN _, below_drewN hb _⟩
                case measure => simp [intOf]; omega
              · go_wp2_with fail
                go_ret
                exact ⟨rfl, BZ.out.trans (hb.mono (by have := BZ.out.size; omega))⟩
    · have hw : wholeL S a b = ((0, 0), 2) := wholeL_bad hgood
      have HW := Lib.hid hw
      clear hw
      by_cases h0 : a < 0
      · go_enter Try.func8, Try.ntmps8
        go_wp2_with (first
          | (go_at_call 9; refine (lineAlive_any HL.out _).mono ?_; rintro e w1 ⟨rfl, b1⟩)
          | (go_at_call 22; refine (HL.out.whole S a b _ hs).mono ?_; rintro e w2 ⟨rfl, b2⟩; rw [HW.out]))
        go_ret
        exact ⟨rfl, b1.trans (b2.mono b1.size)⟩
      · by_cases h1 : b < a
        · go_enter Try.func8, Try.ntmps8
          go_wp2_with (first
            | (go_at_call 9; refine (lineAlive_any HL.out _).mono ?_; rintro e w1 ⟨rfl, b1⟩)
            | (go_at_call 22; refine (HL.out.whole S a b _ hs).mono ?_; rintro e w2 ⟨rfl, b2⟩; rw [HW.out]))
          go_ret
          exact ⟨rfl, b1.trans (b2.mono b1.size)⟩
        · have h2 : (countL S : Int) ≤ b := by omega
          go_enter Try.func8, Try.ntmps8
          go_wp2_with (first
            | (go_at_call 9; refine (lineAlive_any HL.out _).mono ?_; rintro e w1 ⟨rfl, b1⟩)
            | (go_at_call 22; refine (HL.out.whole S a b _ hs).mono ?_; rintro e w2 ⟨rfl, b2⟩; rw [HW.out])
            | (go_at_call 10; refine (HL.out.count S _ hs).mono ?_; rintro e w3 ⟨rfl, b3⟩))
          go_ret
          exact ⟨rfl, (b1.trans (b2.mono b1.size)).trans (b3.mono (by have := b1.size; have := b2.size; omega))⟩
end Go.Proofs.Ytlipkfaofmailaa

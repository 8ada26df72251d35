/-
  Merged: OpSwpM, OpSwap, OpPutM, OpPutl, OpPut.
-/
import Derived.Test.YtgpmfkedcoiopaaGreatDoorM14b
import Derived.Test.YtgpmfkedcoiopaaGreatDoorM12p
import Derived.Test.YtgpmfkedcoiopaaGreatDoorKeyMath
import Derived.Test.YtgpmfkedcoiopaaGreatDoorM14a
import Derived.Test.YtgpmfkedcoiopaaGreatDoorKeyRef
import Derived.Test.YtgpmfkedcoiopaaGreatDoorKeyPrint
/-
  Signs in place of signs, as plain lists: layer 14.
-/
namespace Go.Proofs.YtgpmfkedcoiopaaGreatDoor
open Go.RowKit

/-- a sign, so many times -/
def swapS (k : Int) (m : Nat) : List UInt8 := (List.replicate m (enc k.toNat)).flatten
theorem swapS_succ (k : Int) (m : Nat) : swapS k (m + 1) = swapS k m ++ enc k.toNat := by unfold swapS; rw [List.replicate_succ', List.flatten_append]; simp
theorem swapS_len (k : Int) (m : Nat) : (swapS k m).length = m * (enc k.toNat).length := by
  induction m with
  | zero => simp [swapS]
  | succ m ih => rw [swapS_succ, List.length_append, ih, Nat.succ_mul]
theorem swapS_le (k : Int) (m : Nat) : (swapS k m).length ≤ 4 * m := by
  have h := (enc_len k.toNat).2
  rw [swapS_len, Nat.mul_comm 4 m]
  exact Nat.mul_le_mul_left m h
/-- where the sign lies at which a place is, the end of its line -/
def lineTo (V : List UInt8) (a : Nat) : Nat := (boundsL V (ofL V (a : Nat) : Nat)).1.2
def swapM (S : List UInt8) (l : List RunP) (y : Nat) (p n k : Int) : OutP × Nat :=
  if (viewOf S l y).2 ≠ 0 ∨ ¬ keyK k ∨ k < 32 then (out0, 2)
  else if lineTo (viewOf S l y).1 (alignM (viewOf S l y).1 p) ≤ atM (viewOf S l y).1 (whichM (chars (viewOf S l y).1) p + (manyM n - 1)) then (out0, 6)
  else if (turnedM S l y (alignM (viewOf S l y).1 p : Nat) (atM (viewOf S l y).1 (whichM (chars (viewOf S l y).1) p + manyM n) : Nat) (swapS k (manyM n)) (pack (List.replicate (swapS k (manyM n)).length y)) true).2 = 0 then
    (⟨(turnedM S l y (alignM (viewOf S l y).1 p : Nat) (atM (viewOf S l y).1 (whichM (chars (viewOf S l y).1) p + manyM n) : Nat) (swapS k (manyM n)) (pack (List.replicate (swapS k (manyM n)).length y)) true).1.1, [], [], false, false, ((alignM (viewOf S l y).1 p : Nat) : Int) + ((swapS k (manyM n)).length : Nat) - ((enc k.toNat).length : Nat)⟩, 0)
  else (out0, (turnedM S l y (alignM (viewOf S l y).1 p : Nat) (atM (viewOf S l y).1 (whichM (chars (viewOf S l y).1) p + manyM n) : Nat) (swapS k (manyM n)) (pack (List.replicate (swapS k (manyM n)).length y)) true).2)
end Go.Proofs.YtgpmfkedcoiopaaGreatDoor

/-
  The document's Swap: layer 14.
-/
namespace Go.Proofs.YtgpmfkedcoiopaaGreatDoor
open Go.RowKit
set_option maxRecDepth 100000

/-- what is kept where a text and an answer lie in boxes -/
structure SwpK (w wr : World) (A : Option Addr) (c : Nat) (S : List UInt8) (l : List RunP) : Prop where
  t5 : Blk wr w.heap.size 32 #[.string ⟨S.toArray⟩, .slice A l.length c]
  res : Blk wr (w.heap.size + 1) 47 #[.int .i64 0, .string ⟨#[]⟩, .slice none 0 0, .string ⟨#[]⟩, .slice none 0 0, .string ⟨#[]⟩, .slice none 0 0, .bool false, .bool false, .int .i64 0]
  bel : Below w.heap.size w wr
  tS : Txu wr A S l
theorem SwpK.step {w wr w' : World} {A : Option Addr} {c : Nat} {S : List UInt8} {l : List RunP} (h : SwpK w wr A c S l) (hb : Below wr.heap.size wr w') : SwpK w w' A c S l :=
  ⟨h.t5.below hb h.t5.lt, h.res.below hb h.res.lt, h.bel.trans (hb.mono h.bel.size), grow_txu h.tS _ hb⟩
theorem refPAlign (V : List UInt8) (hV : V.length ≤ 1000000) (p : Int) (wx : World) : Calls Tryz.prog 32 #[.string ⟨V.toArray⟩, .int .i64 p] wx fun e w' => e = .returned (.int .i64 (alignM V p : Nat)) ∧ Below wx.heap.size wx w' :=
  (refAlign_any V hV p wx).mono fun e w' ⟨i, he, hi, hb⟩ => ⟨by rw [he, hi.unique (which_is _ _)]; rfl, hb⟩
theorem refPNext (V : List UInt8) (hV : V.length ≤ 1000000) (j : Nat) (hj : j ≤ (chars V).length) (wx : World) : Calls Tryz.prog 44 #[.string ⟨V.toArray⟩, .int .i64 (atM V j : Nat)] wx fun e w' => e = .returned (.int .i64 (atM V (j + 1) : Nat)) ∧ Below wx.heap.size wx w' :=
  (refNext_any V hV (atM V j : Nat) wx).mono fun e w' ⟨i, he, hi, hb⟩ => ⟨by rw [he, hi.unique (which_self hj)]; rfl, hb⟩
theorem wrapP_near (x : Int) (h0 : -9223372036854775808 ≤ x) (h1 : x ≤ 9223372036854775807) : IntKind.i64.wrap x = x := by rw [IntKind.wrap_i64]; omega
theorem noLab_editP {a : Int} {s t : ByteArray} {A B : Option Addr} {i j k m : Nat} : NoLab #[.int .i64 a, .string s, .slice A i j, .string t, .slice B k m] := noLab_edit a s t A B i j k m
/-- an edit is stored into a box of its own, beside what is kept -/
theorem SwpK.edit {w wr : World} {A : Option Addr} {c : Nat} {S : List UInt8} {l : List RunP} (h : SwpK w wr A c S l) {g : Nat} {cs : Array Value} (hg : Blk wr g 41 cs) (h5 : cs.size = 5) (hn : NoLab cs) (hlow : w.heap.size + 1 < g) {A4 B4 : Option Addr} {el em : List RunP} (rA : Row wr wr.heap.size A4 (flatR el)) (rB : Row wr wr.heap.size B4 (flatR em)) (u0 u1 u2 u3 u4 : Value) :
    Blk (setMany wr g [(0, u0), (1, u1), (2, u2), (3, u3), (4, u4)]) g 41 #[u0, u1, u2, u3, u4] ∧ Row (setMany wr g [(0, u0), (1, u1), (2, u2), (3, u3), (4, u4)]) (setMany wr g [(0, u0), (1, u1), (2, u2), (3, u3), (4, u4)]).heap.size A4 (flatR el) ∧ Row (setMany wr g [(0, u0), (1, u1), (2, u2), (3, u3), (4, u4)]) (setMany wr g [(0, u0), (1, u1), (2, u2), (3, u3), (4, u4)]).heap.size B4 (flatR em) ∧ SwpK w (setMany wr g [(0, u0), (1, u1), (2, u2), (3, u3), (4, u4)]) A c S l := by
  refine ⟨?_, row_many rA hg hn _, row_many rB hg hn _, setMany_far h.t5 (by omega) _, setMany_far h.res (by omega) _, setMany_below h.bel (by omega) _, setMany_txu h.tS hg hn _⟩
  have := setMany_blk hg [(0, u0), (1, u1), (2, u2), (3, u3), (4, u4)]
  obtain ⟨v, hv⟩ : ∃ v, cs = v := ⟨cs, rfl⟩
  have e : cs = #[cs[0]'(by omega), cs[1]'(by omega), cs[2]'(by omega), cs[3]'(by omega), cs[4]'(by omega)] := by
    apply Array.ext
    · simp [h5]
    · intro i h1 h2
      have : i = 0 ∨ i = 1 ∨ i = 2 ∨ i = 3 ∨ i = 4 := by omega
      rcases this with rfl | rfl | rfl | rfl | rfl <;> rfl
  rw [e] at this
  simpa using this
theorem manyP_if (n : Int) : (if 999 < (if n < 1 then 1 else n) then 999 else (if n < 1 then 1 else n)) = ((manyM n : Nat) : Int) := by unfold manyM; omega
set_option maxHeartbeats 16000000 in
theorem refPSwap_any (A : Option Addr) (c : Nat) (S : List UInt8) (l : List RunP) (y : Nat) (hy : y < 18446744073709551616) (p n k : Int) (w : World) (h : Txu w A S l) :
    Calls Tryz.prog 21 #[.agg #[.string ⟨S.toArray⟩, .slice A l.length c], .int .u64 (y : Nat), .int .i64 p, .int .i64 n, .int .i64 k] w (GivesO w (swapM S l y p n k)) := by
  obtain ⟨v, hv⟩ : ∃ v, swapM S l y p n k = v := ⟨_, rfl⟩
  rw [hv]
  unfold swapM at hv
  have hvl := view_len S l y
  have HVW := Lib.hid (fun wx hx => refTView_any A c wx.heap.size S l y hy wx (Nat.le_refl _) hx)
  obtain ⟨vw, hvw⟩ : ∃ vw, viewOf S l y = vw := ⟨_, rfl⟩
  rw [hvw] at hv hvl HVW
  obtain ⟨V, vn⟩ := vw
  dsimp only at hv hvl HVW
  have HV := Lib.hid hv
  clear hv hvw
  have BX := Lib.hid (boxesE2 w 32 47 #[.string ⟨S.toArray⟩, .slice A l.length c] #[.int .i64 0, .string ⟨#[]⟩, .slice none 0 0, .string ⟨#[]⟩, .slice none 0 0, .string ⟨#[]⟩, .slice none 0 0, .bool false, .bool false, .int .i64 0])
  have K := Lib.hid (BX.out.and ((grow_txu h).step BX.out.now.2.2))
  clear h BX
  go_enter Tryz.func21, Tryz.ntmps21
  go_upto_region 1 with fail
  generalize (w.alloc (.cells #[.string ⟨S.toArray⟩, .slice A l.length c] 32)).alloc (.cells #[.int .i64 0, .string ⟨#[]⟩, .slice none 0 0, .string ⟨#[]⟩, .slice none 0 0, .string ⟨#[]⟩, .slice none 0 0, .bool false, .bool false, .int .i64 0] 47) = wx at *
  have T : Hid (SwpK w wx A c S l) := by
    have k := K.out.now
    exact ⟨k.1.1, k.1.2.1, k.1.2.2, k.2⟩
  clear K
  obtain ⟨y0, y1⟩ := txt_cells T.out.t5
  go_upto_region 2 with (go_at_call 31; refine (HVW.out _ T.out.tS).mono ?_; rintro ee w2 ⟨rfl, bb⟩; replace T := Lib.hid (T.out.step bb); clear bb y0 y1)
  by_cases hn : vn = 0
  · subst hn
    have g0 : (((0 : Nat) : Int) != 0) = false := rfl
    by_cases hk : keyK k
    · have g1 := decide_eq_true hk
      by_cases hk32 : k < 32
      · have HV2 := Lib.hid ((if_pos (.inr (.inr hk32))).symm.trans HV.out)
        have g2 : decide (k < 32) = true := decide_eq_true hk32
        clear HV
        have HM := Lib.hid (fun wx => refKMay_any k wx)
        rw [g1] at HM
        go_upto_region 3 with (go_at_call 70; refine (HM.out _).mono ?_; rintro ee w4 ⟨rfl, hw4⟩; subst w4)
        obtain ⟨⟨r0, r1, r2, r3, r4, r5, r6, r7, r8, r9⟩, t0, t1, t2, t3, t4, t5, t6, t7, t8, t9⟩ := out_cells T.out.res
        go_wp2_with fail
        have EE := out_end (A := none) (B := none) (C := none) (l := []) (m := []) (q := []) T.out.res noLab_out T.out.bel (by omega) (.inl rfl) (.inl rfl) (.inl rfl) [(0, .int .i64 0), (1, .string ⟨#[]⟩), (2, .slice none 0 0), (3, .string ⟨#[]⟩), (4, .slice none 0 0), (5, .string ⟨#[]⟩), (6, .slice none 0 0), (7, .bool false), (8, .bool false), (9, .int .i64 0)]
        have EB : Blk (setMany w2 (w.heap.size + 1) [(0, .int .i64 0), (1, .string ⟨#[]⟩), (2, .slice none 0 0), (3, .string ⟨#[]⟩), (4, .slice none 0 0), (5, .string ⟨#[]⟩), (6, .slice none 0 0), (7, .bool false), (8, .bool false), (9, .int .i64 0)]) (w.heap.size + 1) 47 #[.int .i64 0, .string ⟨#[]⟩, .slice none 0 0, .string ⟨#[]⟩, .slice none 0 0, .string ⟨#[]⟩, .slice none 0 0, .bool false, .bool false, .int .i64 0] := out_ten T.out.res _ _ _ _ _ _ _ _ _ _
        change bodyPost _ _ _ _ _ (setMany w2 (w.heap.size + 1) [(0, .int .i64 0), (1, .string ⟨#[]⟩), (2, .slice none 0 0), (3, .string ⟨#[]⟩), (4, .slice none 0 0), (5, .string ⟨#[]⟩), (6, .slice none 0 0), (7, .bool false), (8, .bool false), (9, .int .i64 0)])
        generalize setMany w2 (w.heap.size + 1) [(0, .int .i64 0), (1, .string ⟨#[]⟩), (2, .slice none 0 0), (3, .string ⟨#[]⟩), (4, .slice none 0 0), (5, .string ⟨#[]⟩), (6, .slice none 0 0), (7, .bool false), (8, .bool false), (9, .int .i64 0)] = wz at *
        refine ret_out rfl _ _ (w.heap.size + 1) #[.int .i64 0, .string ⟨#[]⟩, .slice none 0 0, .string ⟨#[]⟩, .slice none 0 0, .string ⟨#[]⟩, .slice none 0 0, .bool false, .bool false, .int .i64 0] rfl rfl EB rfl ?_
        rw [← HV2.out]
        exact ⟨none, 0, none, 0, none, 0, rfl, EE.1, EE.2.1, EE.2.2.1, EE.2.2.2⟩
      · have HV2 := Lib.hid ((if_neg (show ¬ ((0 : Nat) ≠ 0 ∨ ¬ keyK k ∨ k < 32) from fun e => by rcases e with e | e | e; exact e rfl; exact e hk; exact hk32 e)).symm.trans HV.out)
        have g2 : decide (k < 32) = false := decide_eq_false hk32
        have HM := Lib.hid (fun wx => refKMay_any k wx)
        rw [g1] at HM
        obtain ⟨i, hi⟩ : ∃ i, whichM (chars V) p = i := ⟨_, rfl⟩
        have hil : i ≤ (chars V).length := by rw [← hi]; exact (which_is _ _).1
        have hai : alignM V p = atM V i := by rw [← hi]; rfl
        rw [hi, hai] at HV2
        have HAL := Lib.hid (fun wx => refPAlign V (by omega) p wx)
        rw [hai] at HAL
        have HOF := Lib.hid (fun wx => refOf_any V (by omega) (atM V i : Nat) wx)
        have HBO := Lib.hid (fun wx => refBounds_any V (by omega) (ofL V (atM V i : Nat) : Nat) wx)
        have HLT : Hid (lineTo V (atM V i) = (boundsL V (ofL V (atM V i : Nat) : Nat)).1.2) := rfl
        have hle : (boundsL V (ofL V (atM V i : Nat) : Nat)).1.2 ≤ V.length := by
          rw [boundsL_nat (ofL_le V _)]
          exact end_le (ofL_le V _)
        generalize boundsL V (ofL V (atM V i : Nat) : Nat) = bo at *
        generalize ofL V (atM V i : Nat) = q at *
        obtain ⟨⟨f, e⟩, o⟩ := bo
        unfold Gives3 at HBO
        dsimp only at HBO HLT hle
        rw [HLT.out] at HV2
        obtain ⟨kn, rfl⟩ : ∃ kn : Nat, k = (kn : Int) := ⟨k.toNat, by omega⟩
        have hmay : kn ≤ 1114111 := by unfold keyK at hk; omega
        rw [Int.toNat_natCast] at HV2
        have HKB := Lib.hid (fun wx => refGlyBytes_any kn hmay wx)
        have hkl := enc_len kn
        have HSS := Lib.hid (fun j => swapS_succ (kn : Int) j)
        have HSL := Lib.hid (fun j => swapS_le (kn : Int) j)
        have hmb := many_pos n
        have hmf := manyP_if n
        clear HV hi hai hk hmay
        go_upto_region 6 with (first
          | (go_at_call 70; refine (HM.out _).mono ?_; rintro ee w4 ⟨rfl, hw4⟩; subst w4)
          | (go_at_call 32; refine (HAL.out _).mono ?_; rintro ee w3 ⟨rfl, bb⟩; replace T := Lib.hid (T.out.step bb); clear bb))
        clear hmf
        generalize (if n < 1 then (1 : Int) else n) = cm at *
        generalize manyM n = m at *
        go_wp2_with (first
          | (go_at_call 43; refine (HOF.out _).mono ?_; rintro ee w4 ⟨rfl, bb⟩; replace T := Lib.hid (T.out.step bb); clear bb)
          | (go_at_call 71; refine (HBO.out _).mono ?_; rintro ee w5 ⟨rfl, bb⟩; replace T := Lib.hid (T.out.step bb); clear bb))
        clear HM HAL HOF HBO
        go_loopw [19, 20, 21] (fun t s j wr => ∃ jn : Nat, jn ≤ m ∧ i + jn ≤ (chars V).length ∧ t = .int .i64 (atM V (i + jn) : Nat) ∧ s = .string ⟨(swapS (kn : Int) jn).toArray⟩ ∧ j = .int .i64 (jn : Nat) ∧ (jn = 0 ∨ atM V (i + (jn - 1)) < e) ∧ Hid (SwpK w wr A c S l)) (fun _ _ j _ => m - (intOf j).toNat)
        case atStart => exact ⟨0, Nat.zero_le _, hil, rfl, rfl, rfl, .inl rfl, T⟩
        case round =>
          clear T
          obtain ⟨jn, hjm, hjl, rfl, rfl, rfl, hje, T⟩ := hrel
          by_cases hjlt : jn < m
          · have hj1 : (jn : Int) < (m : Int) := by omega
            by_cases hlt : atM V (i + jn) < e
            · have hlt1 : (atM V (i + jn) : Int) < (e : Int) := by omega
              have hlt2 : ¬ (e : Int) ≤ (atM V (i + jn) : Int) := by omega
              have hin : i + jn < (chars V).length := by
                rcases Nat.lt_or_ge (i + jn) (chars V).length with g | g
                · exact g
                · have h1 := width_take_mono (chars V) g
                  rw [List.take_length, width_chars] at h1
                  unfold atM at hlt
                  omega
              have HNX := Lib.hid (fun wx => refPNext V (by omega) (i + jn) hjl wx)
              have HLT2 := Lib.hid hlt
              have hsl := HSL.out jn
              have hsum : ¬ 9223372036854775807 < (swapS (kn : Int) jn).length + (enc kn).length := by omega
              have hs2 := HSS.out jn
              rw [Int.toNat_natCast] at hs2
              have HS2 := Lib.hid hs2
              clear hlt hs2
              generalize hp1 : atM V (i + jn) = p1 at *
              have HP1 := Lib.hid hp1
              generalize hp2 : atM V (i + jn + 1) = p2 at *
              have HP2 := Lib.hid hp2
              generalize hsw : swapS (kn : Int) jn = sw at *
              have HSW := Lib.hid hsw
              clear hp1 hp2 hsw hje
              go_wp2_with (first
                | (go_at_call 44; refine (HNX.out _).mono ?_; rintro ee w6 ⟨rfl, bb⟩; replace T := Lib.hid (T.out.step bb); clear bb)
                | (go_at_call 72; refine (HKB.out _).mono ?_; rintro ee w7 ⟨rfl, bb⟩; replace T := Lib.hid (T.out.step bb); clear bb))
              go_roundw
              case rel => exact ⟨jn + 1, hjlt, hin, by rw [← HP2.out]; rfl, by rw [HS2.out, bytes_app], by go_num, .inr (by rw [Nat.add_sub_cancel, HP1.out]; exact HLT2.out), T⟩
              case measure => simp [intOf]; omega
            · have hlt2 : (e : Int) ≤ (atM V (i + jn) : Int) := by omega
              have hge : e ≤ atM V (i + (m - 1)) := by
                have h1 := width_take_mono (chars V) (show i + jn ≤ i + (m - 1) by omega)
                unfold atM at hlt ⊢
                omega
              have HV3 := Lib.hid ((if_pos hge).symm.trans HV2.out)
              clear HV2 hge
              generalize atM V (i + jn) = p1 at *
              generalize swapS (kn : Int) jn = sw at *
              obtain ⟨⟨r0, r1, r2, r3, r4, r5, r6, r7, r8, r9⟩, t0, t1, t2, t3, t4, t5, t6, t7, t8, t9⟩ := out_cells T.out.res
              go_wp2_with fail
              have EE := out_end (A := none) (B := none) (C := none) (l := []) (m := []) (q := []) T.out.res noLab_out T.out.bel (by omega) (.inl rfl) (.inl rfl) (.inl rfl) [(0, .int .i64 0), (1, .string ⟨#[]⟩), (2, .slice none 0 0), (3, .string ⟨#[]⟩), (4, .slice none 0 0), (5, .string ⟨#[]⟩), (6, .slice none 0 0), (7, .bool false), (8, .bool false), (9, .int .i64 0)]
              have EB : Blk (setMany wr (w.heap.size + 1) [(0, .int .i64 0), (1, .string ⟨#[]⟩), (2, .slice none 0 0), (3, .string ⟨#[]⟩), (4, .slice none 0 0), (5, .string ⟨#[]⟩), (6, .slice none 0 0), (7, .bool false), (8, .bool false), (9, .int .i64 0)]) (w.heap.size + 1) 47 #[.int .i64 0, .string ⟨#[]⟩, .slice none 0 0, .string ⟨#[]⟩, .slice none 0 0, .string ⟨#[]⟩, .slice none 0 0, .bool false, .bool false, .int .i64 0] := out_ten T.out.res _ _ _ _ _ _ _ _ _ _
              change bodyPost _ _ _ _ _ (setMany wr (w.heap.size + 1) [(0, .int .i64 0), (1, .string ⟨#[]⟩), (2, .slice none 0 0), (3, .string ⟨#[]⟩), (4, .slice none 0 0), (5, .string ⟨#[]⟩), (6, .slice none 0 0), (7, .bool false), (8, .bool false), (9, .int .i64 0)])
              generalize setMany wr (w.heap.size + 1) [(0, .int .i64 0), (1, .string ⟨#[]⟩), (2, .slice none 0 0), (3, .string ⟨#[]⟩), (4, .slice none 0 0), (5, .string ⟨#[]⟩), (6, .slice none 0 0), (7, .bool false), (8, .bool false), (9, .int .i64 0)] = wz at *
              refine ret_out rfl _ _ (w.heap.size + 1) #[.int .i64 0, .string ⟨#[]⟩, .slice none 0 0, .string ⟨#[]⟩, .slice none 0 0, .string ⟨#[]⟩, .slice none 0 0, .bool false, .bool false, .int .i64 0] rfl rfl EB rfl ?_
              rw [← HV3.out]
              exact ⟨none, 0, none, 0, none, 0, rfl, EE.1, EE.2.1, EE.2.2.1, EE.2.2.2⟩
          · obtain rfl : jn = m := by omega
            have hj1 : ¬ (jn : Int) < (jn : Int) := by omega
            have hje2 : atM V (i + (jn - 1)) < e := hje.resolve_left (by omega)
            have HV3 := Lib.hid ((if_neg (show ¬ e ≤ atM V (i + (jn - 1)) by omega)).symm.trans HV2.out)
            have hsl := HSL.out jn
            clear HV2 hje hje2
            have hp0 : atM V i ≤ 4096 := by
              have h1 := width_le_take (chars V) i
              rw [width_chars] at h1
              unfold atM
              omega
            generalize swapS (kn : Int) jn = sw at *
            generalize atM V (i + jn) = p1 at *
            generalize atM V i = p0 at *
            obtain ⟨tm, htm⟩ : ∃ tm, turnedM S l y (p0 : Nat) (p1 : Nat) sw (pack (List.replicate sw.length y)) true = tm := ⟨_, rfl⟩
            rw [htm] at HV3
            have HTM := Lib.hid htm
            clear htm
            obtain ⟨⟨⟨ea, ES, el, EX, em⟩, W⟩, rn⟩ := tm
            dsimp only at HV3
            have hmk : makeOf sw y = ((sw, pack (List.replicate sw.length y)), 0) := if_pos (by omega)
            have HMD := Lib.hid (fun wx => refPMade_any sw (by unfold maxLen; omega) y hy wx)
            rw [hmk] at HMD
            dsimp only at HMD
            have hsf : Fits (pack (List.replicate sw.length y)) ∧ (pack (List.replicate sw.length y)).length ≤ maxLen := by
              constructor
              · exact fits_pack (fun x hx => by rw [(List.mem_replicate.1 hx).2]; exact hy) (by rw [List.length_replicate]; omega)
              · have := pack_len (List.replicate sw.length y)
                rw [List.length_replicate] at this
                unfold maxLen
                omega
            have HSF := Lib.hid hsf
            clear hmk hsf
            generalize pack (List.replicate sw.length y) = sq at *
            have HTU : Hid (∀ wx A3 c3, Txu wx A S l → Row wx wx.heap.size A3 (flatR sq) → Calls Tryz.prog 73 #[.agg #[.string ⟨S.toArray⟩, .slice A l.length c], .int .u64 (y : Nat), .int .i64 (p0 : Nat), .int .i64 (p1 : Nat), .agg #[.string ⟨sw.toArray⟩, .slice A3 sq.length c3], .bool true] wx (GivesEV wx ((⟨ea, ES, el, EX, em⟩, W), rn))) := fun wx A3 c3 h1 h2 => by
              have := refPTurned_any A A3 c c3 S l y hy (p0 : Nat) (p1 : Nat) sw sq true wx h1 ⟨by unfold maxLen; omega, HSF.out.1, HSF.out.2, h2⟩
              rw [HTM.out] at this
              exact this
            have hb0 : Below wr.heap.size wr wr := Below.refl _ _
            have KS : Hid (∀ w', Below wr.heap.size wr w' → w'.cell? ⟨w.heap.size, 0, none⟩ = some (.string ⟨S.toArray⟩) ∧ w'.cell? ⟨w.heap.size, 1, none⟩ = some (.slice A l.length c)) := fun w' hb => txt_cells (T.out.step hb).t5
            have LOW : Hid (w.heap.size + 1 < wr.heap.size) := T.out.res.lt
            have h4096 : ¬ (4096 : Int) < (sw.length : Int) := by omega
            have h4097 : decide ((sw.length : Int) ≤ 4096) = true := decide_eq_true (by omega)
            go_upto_region 16 with fail
            go_cut [22, 23, 24] (fun s22 s23 s24 wq => ∃ (g : Nat) (A4 : Option Addr) (c4 : Nat) (B4 : Option Addr) (d4 : Nat), s22 = .pointer (some ⟨g, 0, none⟩) ∧ s23 = .string ⟨W.toArray⟩ ∧ s24 = .int .i64 (rn : Nat) ∧ Hid (Blk wq g 41 #[.int .i64 ea, .string ⟨ES.toArray⟩, .slice A4 el.length c4, .string ⟨EX.toArray⟩, .slice B4 em.length d4]) ∧ Hid (Row wq wq.heap.size A4 (flatR el)) ∧ Hid (Row wq wq.heap.size B4 (flatR em)) ∧ Hid (SwpK w wq A c S l) ∧ Hid (w.heap.size + 1 < g))
            case first =>
              refine wp_region_held_drew (S := fun w' => w'.cell? ⟨w.heap.size, 0, none⟩ = some (.string ⟨S.toArray⟩) ∧ w'.cell? ⟨w.heap.size, 1, none⟩ = some (.slice A l.length c)) (by kernel_rfl) (KS.out _ (below_drewN hb0 1)) (fun hHeld => ?_)
              refine wpAnyH_take (i := 0) (v := ?_) rfl (by kernel_rfl) (by kernel_rfl) (by kernel_rfl) (fun _ _ _ h => h) (Or.inl ⟨by rfl, ?_⟩) (by assumption) ?_
              rotate_left
              · (intro w hSw; obtain ⟨q0, q1⟩ := hSw; go_simp; (try with_reducible rfl))
              (try simp only [List.getElem_toArray, List.getElem_cons_zero, Act.put, List.setIfInBounds_toArray, List.set_cons_zero, List.set_cons_succ])
              refine wpAnyH_take (i := 1) (v := ?_) rfl (by kernel_rfl) (by kernel_rfl) (by kernel_rfl) (fun _ _ _ h => h) (Or.inl ⟨by rfl, ?_⟩) (by assumption) ?_
              rotate_left
              · (intro w hSw; obtain ⟨q0, q1⟩ := hSw; go_simp; (try with_reducible rfl))
              (try simp only [List.getElem_toArray, List.getElem_cons_zero, List.getElem_cons_succ, Act.put, List.setIfInBounds_toArray, List.set_cons_zero, List.set_cons_succ])
              refine wpAnyH_take (i := 2) (v := ?_) rfl (by kernel_rfl) (by kernel_rfl) (by kernel_rfl) (fun _ _ _ h => h) (Or.inl ⟨by rfl, ?_⟩) (by assumption) ?_
              rotate_left
              · (intro w hSw; obtain ⟨q0, q1⟩ := hSw; go_simp; (try with_reducible rfl))
              (try simp only [List.getElem_toArray, List.getElem_cons_zero, List.getElem_cons_succ, Act.put, List.setIfInBounds_toArray, List.set_cons_zero, List.set_cons_succ])
              refine wpAnyH_take (i := 3) (v := ?_) rfl (by kernel_rfl) (by kernel_rfl) (by kernel_rfl) (fun _ _ _ h => h) (Or.inl ⟨by rfl, ?_⟩) (by assumption) ?_
              rotate_left
              · (intro w hSw; obtain ⟨q0, q1⟩ := hSw; go_simp; (try with_reducible rfl))
              (try simp only [List.getElem_toArray, List.getElem_cons_zero, List.getElem_cons_succ, Act.put, List.setIfInBounds_toArray, List.set_cons_zero, List.set_cons_succ])
              refine wpAnyH_take (i := 4) (v := ?_) rfl (by kernel_rfl) (by kernel_rfl) (by kernel_rfl) (fun _ _ _ h => h) (Or.inl ⟨by rfl, ?_⟩) (by assumption) ?_
              rotate_left
              · (intro w hSw; obtain ⟨q0, q1⟩ := hSw; go_simp; (try with_reducible rfl))
              (try simp only [List.getElem_toArray, List.getElem_cons_zero, List.getElem_cons_succ, Act.put, List.setIfInBounds_toArray, List.set_cons_zero, List.set_cons_succ])
              refine wpAnyH_take (i := 5) (v := ?_) rfl (by kernel_rfl) (by kernel_rfl) (by kernel_rfl) (fun _ _ _ h => h) (Or.inl ⟨by rfl, ?_⟩) (by assumption) ?_
              rotate_left
              · (intro w hSw; obtain ⟨q0, q1⟩ := hSw; go_simp; (try with_reducible rfl))
              (try simp only [List.getElem_toArray, List.getElem_cons_zero, List.getElem_cons_succ, Act.put, List.setIfInBounds_toArray, List.set_cons_zero, List.set_cons_succ])
              refine wpAnyH_take (i := 7) (v := ?_) rfl (by kernel_rfl) (by kernel_rfl) (by kernel_rfl) (fun _ _ _ h => h) (Or.inl ⟨by rfl, ?_⟩) (by assumption) ?_
              rotate_left
              · (intro w hSw; obtain ⟨q0, q1⟩ := hSw; go_simp; (try with_reducible rfl))
              (try simp only [List.getElem_toArray, List.getElem_cons_zero, List.getElem_cons_succ, Act.put, List.setIfInBounds_toArray, List.set_cons_zero, List.set_cons_succ])
              refine wpAnyH_take (i := 8) (v := ?_) rfl (by kernel_rfl) (by kernel_rfl) (by kernel_rfl) (fun _ _ _ h => h) (Or.inl ⟨by rfl, ?_⟩) (by assumption) ?_
              rotate_left
              · (intro w hSw; obtain ⟨q0, q1⟩ := hSw; go_simp; (try with_reducible rfl))
              (try simp only [List.getElem_toArray, List.getElem_cons_zero, List.getElem_cons_succ, Act.put, List.setIfInBounds_toArray, List.set_cons_zero, List.set_cons_succ])
              refine wpAnyH_take (i := 9) (v := ?_) rfl (by kernel_rfl) (by kernel_rfl) (by kernel_rfl) (fun _ _ _ h => h) (Or.inl ⟨by rfl, ?_⟩) (by assumption) ?_
              rotate_left
              · (intro w hSw; obtain ⟨q0, q1⟩ := hSw; go_simp; (try with_reducible rfl))
              (try simp only [List.getElem_toArray, List.getElem_cons_zero, List.getElem_cons_succ, Act.put, List.setIfInBounds_toArray, List.set_cons_zero, List.set_cons_succ])
              have hbz : Below wr.heap.size wr wr.drew := below_drewN hb0 1
              refine wpAnyH_ready (rs := [6, 15]) (by kernel_rfl) (by simp) ?_
              refine AllReadyH.cons rfl (fun K hK => ?_) (AllReadyH.cons rfl (fun K hK => ?_) AllReadyH.nil)
              · go_simp
                refine (HMD.out _).mono ?_
                rintro ee w3 ⟨A3, c3, rfl, own3, bb3⟩
                have RR3 := Row.of_own own3
                have hbx : Below wr.heap.size wr w3 := hbz.trans (bb3.mono hbz.size)
                (try go_wp2_with fail)
                refine hK.out _ _ (KS.out _ hbx) (fun hHeld => ?_)
                clear hK K
                (try simp only [List.getElem_toArray, List.getElem_cons_zero, List.getElem_cons_succ, Act.put, List.setIfInBounds_toArray, List.set_cons_zero, List.set_cons_succ])
                refine wpAnyH_ready (rs := [10, 15]) (by kernel_rfl) (by simp) ?_
                refine AllReadyH.cons rfl (fun K hK => ?_) (AllReadyH.cons rfl (fun K hK => ?_) AllReadyH.nil)
                · go_simp
                  refine (HTU.out _ A3 c3 (T.out.step hbx).tS RR3).mono ?_
                  rintro ee w6 ⟨A4, c4, B4, d4, rfl, rA, rB, bb6⟩
                  dsimp only at rA rB ⊢
                  have hby : Below wr.heap.size wr w6 := hbx.trans (bb6.mono hbx.size)
                  (try go_wp2_with fail)
                  refine hK.out _ _ (KS.out _ hby) (fun hHeld => ?_)
                  clear hK K
                  (try simp only [List.getElem_toArray, List.getElem_cons_zero, List.getElem_cons_succ, Act.put, List.setIfInBounds_toArray, List.set_cons_zero, List.set_cons_succ])
                  refine wpAnyH_take (i := 11) (v := ?_) rfl (by kernel_rfl) (by kernel_rfl) (by kernel_rfl) (fun _ _ _ h => h) (Or.inl ⟨by rfl, ?_⟩) (by assumption) ?_
                  rotate_left
                  · (intro w hSw; obtain ⟨q0, q1⟩ := hSw; go_simp; (try with_reducible rfl))
                  (try simp only [List.getElem_toArray, List.getElem_cons_zero, List.getElem_cons_succ, Act.put, List.setIfInBounds_toArray, List.set_cons_zero, List.set_cons_succ])
                  refine wpAnyH_take (i := 12) (v := ?_) rfl (by kernel_rfl) (by kernel_rfl) (by kernel_rfl) (fun _ _ _ h => h) (Or.inl ⟨by rfl, ?_⟩) (by assumption) ?_
                  rotate_left
                  · (intro w hSw; obtain ⟨q0, q1⟩ := hSw; go_simp; (try with_reducible rfl))
                  (try simp only [List.getElem_toArray, List.getElem_cons_zero, List.getElem_cons_succ, Act.put, List.setIfInBounds_toArray, List.set_cons_zero, List.set_cons_succ])
                  refine wpAnyH_take (i := 13) (v := ?_) rfl (by kernel_rfl) (by kernel_rfl) (by kernel_rfl) (fun _ _ _ h => h) (Or.inl ⟨by rfl, ?_⟩) (by assumption) ?_
                  rotate_left
                  · (intro w hSw; obtain ⟨q0, q1⟩ := hSw; go_simp; (try with_reducible rfl))
                  (try simp only [List.getElem_toArray, List.getElem_cons_zero, List.getElem_cons_succ, Act.put, List.setIfInBounds_toArray, List.set_cons_zero, List.set_cons_succ])
                  refine wpAnyH_take (i := 14) (v := ?_) rfl (by kernel_rfl) (by kernel_rfl) (by kernel_rfl) (fun _ _ _ h => h) (Or.inl ⟨by rfl, ?_⟩) (by assumption) ?_
                  rotate_left
                  · (intro w hSw; obtain ⟨q0, q1⟩ := hSw; go_simp; (try with_reducible rfl))
                  (try simp only [List.getElem_toArray, List.getElem_cons_zero, List.getElem_cons_succ, Act.put, List.setIfInBounds_toArray, List.set_cons_zero, List.set_cons_succ])
                  refine wpAnyH_ready (rs := [15]) (by kernel_rfl) (by simp) ?_
                  refine AllReadyH.cons rfl (fun K hK => ?_) AllReadyH.nil
                  go_simp
                  have Q7 := Blk.new w6 41 #[.int .i64 0, .string ⟨#[]⟩, .slice none 0 0, .string ⟨#[]⟩, .slice none 0 0]
                  have hbv : Below wr.heap.size wr (w6.alloc (.cells #[.int .i64 0, .string ⟨#[]⟩, .slice none 0 0, .string ⟨#[]⟩, .slice none 0 0] 41)) := hby.alloc hby.size _
                  have hg7 : w.heap.size + 1 < w6.heap.size := Nat.lt_of_lt_of_le LOW.out hby.size
                  have rA7 := row_step rA ((Below.refl _ _).alloc (Nat.le_refl _) (.cells #[.int .i64 0, .string ⟨#[]⟩, .slice none 0 0, .string ⟨#[]⟩, .slice none 0 0] 41))
                  have rB7 := row_step rB ((Below.refl _ _).alloc (Nat.le_refl _) (.cells #[.int .i64 0, .string ⟨#[]⟩, .slice none 0 0, .string ⟨#[]⟩, .slice none 0 0] 41))
                  clear rA rB
                  have rA := rA7
                  have rB := rB7
                  refine hK.out _ _ (KS.out _ hbv) (fun hHeld => ?_)
                  clear hK K
                  (try simp only [List.getElem_toArray, List.getElem_cons_zero, List.getElem_cons_succ, Act.put, List.setIfInBounds_toArray, List.set_cons_zero, List.set_cons_succ])
                  generalize hgg : w6.heap.size = g7 at *
                  generalize w6.alloc (.cells #[.int .i64 0, .string ⟨#[]⟩, .slice none 0 0, .string ⟨#[]⟩, .slice none 0 0] 41) = w7 at *
                  have E7 := (T.out.step hbv).edit Q7 rfl noLab_editP hg7 rA rB (.int .i64 ea) (.string ⟨ES.toArray⟩) (.slice A4 el.length c4) (.string ⟨EX.toArray⟩) (.slice B4 em.length d4)
                  obtain ⟨e0, e1, e2, e3, e4⟩ := ed_cells Q7
                  have f0 := Q7.frozen 0
                  have f1 := Q7.frozen 1
                  have f2 := Q7.frozen 2
                  have f3 := Q7.frozen 3
                  have f4 := Q7.frozen 4
                  refine wpAnyH_ready (rs := [16]) (by kernel_rfl) (by simp) ?_
                  refine AllReadyH.cons rfl (fun K hK => ?_) AllReadyH.nil
                  go_simp
                  refine hK.out _ _ (show _ from txt_cells (E7.2.2.2).t5) (fun hHeld => ?_)
                  clear hK K
                  (try simp only [List.getElem_toArray, List.getElem_cons_zero, List.getElem_cons_succ, Act.put, List.setIfInBounds_toArray, List.set_cons_zero, List.set_cons_succ])
                  refine wpAnyH_take (i := 17) (v := ?_) rfl (by kernel_rfl) (by kernel_rfl) (by kernel_rfl) (fun _ _ _ h => h) (Or.inl ⟨by rfl, ?_⟩) (by assumption) ?_
                  rotate_left
                  · (intro w hSw; obtain ⟨q0, q1⟩ := hSw; go_simp; (try with_reducible rfl))
                  (try simp only [List.getElem_toArray, List.getElem_cons_zero, List.getElem_cons_succ, Act.put, List.setIfInBounds_toArray, List.set_cons_zero, List.set_cons_succ])
                  refine wpAnyH_take (i := 18) (v := ?_) rfl (by kernel_rfl) (by kernel_rfl) (by kernel_rfl) (fun _ _ _ h => h) (Or.inl ⟨by rfl, ?_⟩) (by assumption) ?_
                  rotate_left
                  · (intro w hSw; obtain ⟨q0, q1⟩ := hSw; go_simp; (try with_reducible rfl))
                  (try simp only [List.getElem_toArray, List.getElem_cons_zero, List.getElem_cons_succ, Act.put, List.setIfInBounds_toArray, List.set_cons_zero, List.set_cons_succ])
                  refine wpAnyH_done (by kernel_rfl) ?_ _
                  go_wp2_with fail
                  go_meet
                  exact ⟨_, A4, c4, B4, d4, rfl, rfl, rfl, E7.1, E7.2.1, E7.2.2.1, E7.2.2.2, hg7⟩
                · go_simp
                  have Q7 := Blk.new w3 41 #[.int .i64 0, .string ⟨#[]⟩, .slice none 0 0, .string ⟨#[]⟩, .slice none 0 0]
                  have hbv : Below wr.heap.size wr (w3.alloc (.cells #[.int .i64 0, .string ⟨#[]⟩, .slice none 0 0, .string ⟨#[]⟩, .slice none 0 0] 41)) := hbx.alloc hbx.size _
                  have hg7 : w.heap.size + 1 < w3.heap.size := Nat.lt_of_lt_of_le LOW.out hbx.size
                  have RR7 := row_step RR3 ((Below.refl _ _).alloc (Nat.le_refl _) (.cells #[.int .i64 0, .string ⟨#[]⟩, .slice none 0 0, .string ⟨#[]⟩, .slice none 0 0] 41))
                  clear RR3
                  have RR3 := RR7
                  refine hK.out _ _ (KS.out _ hbv) (fun hHeld => ?_)
                  clear hK K
                  (try simp only [List.getElem_toArray, List.getElem_cons_zero, List.getElem_cons_succ, Act.put, List.setIfInBounds_toArray, List.set_cons_zero, List.set_cons_succ])
                  generalize hgg : w3.heap.size = g7 at *
                  generalize w3.alloc (.cells #[.int .i64 0, .string ⟨#[]⟩, .slice none 0 0, .string ⟨#[]⟩, .slice none 0 0] 41) = w7 at *
                  refine wpAnyH_ready (rs := [10]) (by kernel_rfl) (by simp) ?_
                  refine AllReadyH.cons rfl (fun K hK => ?_) AllReadyH.nil
                  go_simp
                  refine (HTU.out _ A3 c3 (T.out.step hbv).tS RR3).mono ?_
                  rintro ee w6 ⟨A4, c4, B4, d4, rfl, rA, rB, bb6⟩
                  dsimp only at rA rB ⊢
                  have hby : Below wr.heap.size wr w6 := hbv.trans (bb6.mono hbv.size)
                  (try go_wp2_with fail)
                  refine hK.out _ _ (KS.out _ hby) (fun hHeld => ?_)
                  clear hK K
                  (try simp only [List.getElem_toArray, List.getElem_cons_zero, List.getElem_cons_succ, Act.put, List.setIfInBounds_toArray, List.set_cons_zero, List.set_cons_succ])
                  refine wpAnyH_take (i := 11) (v := ?_) rfl (by kernel_rfl) (by kernel_rfl) (by kernel_rfl) (fun _ _ _ h => h) (Or.inl ⟨by rfl, ?_⟩) (by assumption) ?_
                  rotate_left
                  · (intro w hSw; obtain ⟨q0, q1⟩ := hSw; go_simp; (try with_reducible rfl))
                  (try simp only [List.getElem_toArray, List.getElem_cons_zero, List.getElem_cons_succ, Act.put, List.setIfInBounds_toArray, List.set_cons_zero, List.set_cons_succ])
                  refine wpAnyH_take (i := 12) (v := ?_) rfl (by kernel_rfl) (by kernel_rfl) (by kernel_rfl) (fun _ _ _ h => h) (Or.inl ⟨by rfl, ?_⟩) (by assumption) ?_
                  rotate_left
                  · (intro w hSw; obtain ⟨q0, q1⟩ := hSw; go_simp; (try with_reducible rfl))
                  (try simp only [List.getElem_toArray, List.getElem_cons_zero, List.getElem_cons_succ, Act.put, List.setIfInBounds_toArray, List.set_cons_zero, List.set_cons_succ])
                  refine wpAnyH_take (i := 13) (v := ?_) rfl (by kernel_rfl) (by kernel_rfl) (by kernel_rfl) (fun _ _ _ h => h) (Or.inl ⟨by rfl, ?_⟩) (by assumption) ?_
                  rotate_left
                  · (intro w hSw; obtain ⟨q0, q1⟩ := hSw; go_simp; (try with_reducible rfl))
                  (try simp only [List.getElem_toArray, List.getElem_cons_zero, List.getElem_cons_succ, Act.put, List.setIfInBounds_toArray, List.set_cons_zero, List.set_cons_succ])
                  refine wpAnyH_take (i := 14) (v := ?_) rfl (by kernel_rfl) (by kernel_rfl) (by kernel_rfl) (fun _ _ _ h => h) (Or.inl ⟨by rfl, ?_⟩) (by assumption) ?_
                  rotate_left
                  · (intro w hSw; obtain ⟨q0, q1⟩ := hSw; go_simp; (try with_reducible rfl))
                  (try simp only [List.getElem_toArray, List.getElem_cons_zero, List.getElem_cons_succ, Act.put, List.setIfInBounds_toArray, List.set_cons_zero, List.set_cons_succ])
                  replace Q7 := Q7.below bb6 Q7.lt
                  have E7 := (T.out.step hby).edit Q7 rfl noLab_editP hg7 rA rB (.int .i64 ea) (.string ⟨ES.toArray⟩) (.slice A4 el.length c4) (.string ⟨EX.toArray⟩) (.slice B4 em.length d4)
                  obtain ⟨e0, e1, e2, e3, e4⟩ := ed_cells Q7
                  have f0 := Q7.frozen 0
                  have f1 := Q7.frozen 1
                  have f2 := Q7.frozen 2
                  have f3 := Q7.frozen 3
                  have f4 := Q7.frozen 4
                  refine wpAnyH_ready (rs := [16]) (by kernel_rfl) (by simp) ?_
                  refine AllReadyH.cons rfl (fun K hK => ?_) AllReadyH.nil
                  go_simp
                  refine hK.out _ _ (show _ from txt_cells (E7.2.2.2).t5) (fun hHeld => ?_)
                  clear hK K
                  (try simp only [List.getElem_toArray, List.getElem_cons_zero, List.getElem_cons_succ, Act.put, List.setIfInBounds_toArray, List.set_cons_zero, List.set_cons_succ])
                  refine wpAnyH_take (i := 17) (v := ?_) rfl (by kernel_rfl) (by kernel_rfl) (by kernel_rfl) (fun _ _ _ h => h) (Or.inl ⟨by rfl, ?_⟩) (by assumption) ?_
                  rotate_left
                  · (intro w hSw; obtain ⟨q0, q1⟩ := hSw; go_simp; (try with_reducible rfl))
                  (try simp only [List.getElem_toArray, List.getElem_cons_zero, List.getElem_cons_succ, Act.put, List.setIfInBounds_toArray, List.set_cons_zero, List.set_cons_succ])
                  refine wpAnyH_take (i := 18) (v := ?_) rfl (by kernel_rfl) (by kernel_rfl) (by kernel_rfl) (fun _ _ _ h => h) (Or.inl ⟨by rfl, ?_⟩) (by assumption) ?_
                  rotate_left
                  · (intro w hSw; obtain ⟨q0, q1⟩ := hSw; go_simp; (try with_reducible rfl))
                  (try simp only [List.getElem_toArray, List.getElem_cons_zero, List.getElem_cons_succ, Act.put, List.setIfInBounds_toArray, List.set_cons_zero, List.set_cons_succ])
                  refine wpAnyH_done (by kernel_rfl) ?_ _
                  go_wp2_with fail
                  go_meet
                  exact ⟨_, A4, c4, B4, d4, rfl, rfl, rfl, E7.1, E7.2.1, E7.2.2.1, E7.2.2.2, hg7⟩
              · go_simp
                have Q7 : Blk (wr.alloc (.cells #[.int .i64 0, .string ⟨#[]⟩, .slice none 0 0, .string ⟨#[]⟩, .slice none 0 0] 41)).drew wr.heap.size 41 #[.int .i64 0, .string ⟨#[]⟩, .slice none 0 0, .string ⟨#[]⟩, .slice none 0 0] := Blk.new wr 41 #[.int .i64 0, .string ⟨#[]⟩, .slice none 0 0, .string ⟨#[]⟩, .slice none 0 0]
                have hbv : Below wr.heap.size wr (wr.alloc (.cells #[.int .i64 0, .string ⟨#[]⟩, .slice none 0 0, .string ⟨#[]⟩, .slice none 0 0] 41)).drew := below_drewN (hb0.alloc (Nat.le_refl _) _) 1
                have hg7 : w.heap.size + 1 < wr.heap.size := LOW.out
                refine hK.out _ _ (KS.out _ hbv) (fun hHeld => ?_)
                clear hK K
                (try simp only [List.getElem_toArray, List.getElem_cons_zero, List.getElem_cons_succ, Act.put, List.setIfInBounds_toArray, List.set_cons_zero, List.set_cons_succ])
                generalize (wr.alloc (.cells #[.int .i64 0, .string ⟨#[]⟩, .slice none 0 0, .string ⟨#[]⟩, .slice none 0 0] 41)).drew = w7 at *
                refine wpAnyH_ready (rs := [6]) (by kernel_rfl) (by simp) ?_
                refine AllReadyH.cons rfl (fun K hK => ?_) AllReadyH.nil
                go_simp
                refine (HMD.out _).mono ?_
                rintro ee w3 ⟨A3, c3, rfl, own3, bb3⟩
                have RR3 := Row.of_own own3
                have hbx : Below wr.heap.size wr w3 := hbv.trans (bb3.mono hbv.size)
                (try go_wp2_with fail)
                refine hK.out _ _ (KS.out _ hbx) (fun hHeld => ?_)
                clear hK K
                (try simp only [List.getElem_toArray, List.getElem_cons_zero, List.getElem_cons_succ, Act.put, List.setIfInBounds_toArray, List.set_cons_zero, List.set_cons_succ])
                replace Q7 := Q7.below bb3 Q7.lt
                refine wpAnyH_ready (rs := [10]) (by kernel_rfl) (by simp) ?_
                refine AllReadyH.cons rfl (fun K hK => ?_) AllReadyH.nil
                go_simp
                refine (HTU.out _ A3 c3 (T.out.step hbx).tS RR3).mono ?_
                rintro ee w6 ⟨A4, c4, B4, d4, rfl, rA, rB, bb6⟩
                dsimp only at rA rB ⊢
                have hby : Below wr.heap.size wr w6 := hbx.trans (bb6.mono hbx.size)
                (try go_wp2_with fail)
                refine hK.out _ _ (KS.out _ hby) (fun hHeld => ?_)
                clear hK K
                (try simp only [List.getElem_toArray, List.getElem_cons_zero, List.getElem_cons_succ, Act.put, List.setIfInBounds_toArray, List.set_cons_zero, List.set_cons_succ])
                refine wpAnyH_take (i := 11) (v := ?_) rfl (by kernel_rfl) (by kernel_rfl) (by kernel_rfl) (fun _ _ _ h => h) (Or.inl ⟨by rfl, ?_⟩) (by assumption) ?_
                rotate_left
                · (intro w hSw; obtain ⟨q0, q1⟩ := hSw; go_simp; (try with_reducible rfl))
                (try simp only [List.getElem_toArray, List.getElem_cons_zero, List.getElem_cons_succ, Act.put, List.setIfInBounds_toArray, List.set_cons_zero, List.set_cons_succ])
                refine wpAnyH_take (i := 12) (v := ?_) rfl (by kernel_rfl) (by kernel_rfl) (by kernel_rfl) (fun _ _ _ h => h) (Or.inl ⟨by rfl, ?_⟩) (by assumption) ?_
                rotate_left
                · (intro w hSw; obtain ⟨q0, q1⟩ := hSw; go_simp; (try with_reducible rfl))
                (try simp only [List.getElem_toArray, List.getElem_cons_zero, List.getElem_cons_succ, Act.put, List.setIfInBounds_toArray, List.set_cons_zero, List.set_cons_succ])
                refine wpAnyH_take (i := 13) (v := ?_) rfl (by kernel_rfl) (by kernel_rfl) (by kernel_rfl) (fun _ _ _ h => h) (Or.inl ⟨by rfl, ?_⟩) (by assumption) ?_
                rotate_left
                · (intro w hSw; obtain ⟨q0, q1⟩ := hSw; go_simp; (try with_reducible rfl))
                (try simp only [List.getElem_toArray, List.getElem_cons_zero, List.getElem_cons_succ, Act.put, List.setIfInBounds_toArray, List.set_cons_zero, List.set_cons_succ])
                refine wpAnyH_take (i := 14) (v := ?_) rfl (by kernel_rfl) (by kernel_rfl) (by kernel_rfl) (fun _ _ _ h => h) (Or.inl ⟨by rfl, ?_⟩) (by assumption) ?_
                rotate_left
                · (intro w hSw; obtain ⟨q0, q1⟩ := hSw; go_simp; (try with_reducible rfl))
                (try simp only [List.getElem_toArray, List.getElem_cons_zero, List.getElem_cons_succ, Act.put, List.setIfInBounds_toArray, List.set_cons_zero, List.set_cons_succ])
                replace Q7 := Q7.below bb6 Q7.lt
                have E7 := (T.out.step hby).edit Q7 rfl noLab_editP hg7 rA rB (.int .i64 ea) (.string ⟨ES.toArray⟩) (.slice A4 el.length c4) (.string ⟨EX.toArray⟩) (.slice B4 em.length d4)
                obtain ⟨e0, e1, e2, e3, e4⟩ := ed_cells Q7
                have f0 := Q7.frozen 0
                have f1 := Q7.frozen 1
                have f2 := Q7.frozen 2
                have f3 := Q7.frozen 3
                have f4 := Q7.frozen 4
                refine wpAnyH_ready (rs := [16]) (by kernel_rfl) (by simp) ?_
                refine AllReadyH.cons rfl (fun K hK => ?_) AllReadyH.nil
                go_simp
                refine hK.out _ _ (show _ from txt_cells (E7.2.2.2).t5) (fun hHeld => ?_)
                clear hK K
                (try simp only [List.getElem_toArray, List.getElem_cons_zero, List.getElem_cons_succ, Act.put, List.setIfInBounds_toArray, List.set_cons_zero, List.set_cons_succ])
                refine wpAnyH_take (i := 17) (v := ?_) rfl (by kernel_rfl) (by kernel_rfl) (by kernel_rfl) (fun _ _ _ h => h) (Or.inl ⟨by rfl, ?_⟩) (by assumption) ?_
                rotate_left
                · (intro w hSw; obtain ⟨q0, q1⟩ := hSw; go_simp; (try with_reducible rfl))
                (try simp only [List.getElem_toArray, List.getElem_cons_zero, List.getElem_cons_succ, Act.put, List.setIfInBounds_toArray, List.set_cons_zero, List.set_cons_succ])
                refine wpAnyH_take (i := 18) (v := ?_) rfl (by kernel_rfl) (by kernel_rfl) (by kernel_rfl) (fun _ _ _ h => h) (Or.inl ⟨by rfl, ?_⟩) (by assumption) ?_
                rotate_left
                · (intro w hSw; obtain ⟨q0, q1⟩ := hSw; go_simp; (try with_reducible rfl))
                (try simp only [List.getElem_toArray, List.getElem_cons_zero, List.getElem_cons_succ, Act.put, List.setIfInBounds_toArray, List.set_cons_zero, List.set_cons_succ])
                refine wpAnyH_done (by kernel_rfl) ?_ _
                go_wp2_with fail
                go_meet
                exact ⟨_, A4, c4, B4, d4, rfl, rfl, rfl, E7.1, E7.2.1, E7.2.2.1, E7.2.2.2, hg7⟩
            case rest =>
              obtain ⟨g, A4, c4, B4, d4, rfl, rfl, rfl, EBX, RA, RB, T2, HG⟩ := hcut
              clear KS T hb0
              by_cases hrn : rn = 0
              · subst hrn
                have HV4 := Lib.hid ((if_pos rfl).symm.trans HV3.out)
                clear HV3
                have g17 : (((0 : Nat) : Int) != 0) = false := rfl
                go_upto_region 19 with fail
                have hb0 : Below wc.heap.size wc wc := Below.refl _ _
                have hbz : Below wc.heap.size wc wc.drew := below_drewN hb0 1
                have KSB : Hid (∀ w', Below wc.heap.size wc w' → Blk w' g 41 #[.int .i64 ea, .string ⟨ES.toArray⟩, .slice A4 el.length c4, .string ⟨EX.toArray⟩, .slice B4 em.length d4]) := fun w' hb => EBX.out.below hb EBX.out.lt
                have KS : Hid (∀ w', Below wc.heap.size wc w' → (w'.cell? ⟨g, 0, none⟩ = some (.int .i64 ea) ∧ w'.cell? ⟨g, 1, none⟩ = some (.string ⟨ES.toArray⟩) ∧ w'.cell? ⟨g, 2, none⟩ = some (.slice A4 el.length c4) ∧ w'.cell? ⟨g, 3, none⟩ = some (.string ⟨EX.toArray⟩) ∧ w'.cell? ⟨g, 4, none⟩ = some (.slice B4 em.length d4))) := fun w' hb => ed_cells (EBX.out.below hb EBX.out.lt)
                have hw1 := wrapP_near ((p0 : Int) + (sw.length : Nat)) (by omega) (by omega)
                have hw2 := wrapP_near ((p0 : Int) + (sw.length : Nat) - ((enc kn).length : Nat)) (by omega) (by omega)
                refine wp_region_held_drew (S := fun w' => (w'.cell? ⟨g, 0, none⟩ = some (.int .i64 ea) ∧ w'.cell? ⟨g, 1, none⟩ = some (.string ⟨ES.toArray⟩) ∧ w'.cell? ⟨g, 2, none⟩ = some (.slice A4 el.length c4) ∧ w'.cell? ⟨g, 3, none⟩ = some (.string ⟨EX.toArray⟩) ∧ w'.cell? ⟨g, 4, none⟩ = some (.slice B4 em.length d4))) (by kernel_rfl) (KS.out _ hbz) (fun hHeld => ?_)
                refine wpAnyH_take (i := 0) (v := ?_) rfl (by kernel_rfl) (by kernel_rfl) (by kernel_rfl) (fun _ _ _ h => h) (Or.inl ⟨by rfl, ?_⟩) (by assumption) ?_
                rotate_left
                · (intro w hSw; obtain ⟨q0, q1, q2, q3, q4⟩ := hSw; go_simp; (try with_reducible rfl))
                (try simp only [List.getElem_toArray, List.getElem_cons_zero, Act.put, List.setIfInBounds_toArray, List.set_cons_zero, List.set_cons_succ])
                refine wpAnyH_take (i := 1) (v := ?_) rfl (by kernel_rfl) (by kernel_rfl) (by kernel_rfl) (fun _ _ _ h => h) (Or.inl ⟨by rfl, ?_⟩) (by assumption) ?_
                rotate_left
                · (intro w hSw; obtain ⟨q0, q1, q2, q3, q4⟩ := hSw; go_simp; (try with_reducible rfl))
                (try simp only [List.getElem_toArray, List.getElem_cons_zero, List.getElem_cons_succ, Act.put, List.setIfInBounds_toArray, List.set_cons_zero, List.set_cons_succ])
                refine wpAnyH_take (i := 2) (v := ?_) rfl (by kernel_rfl) (by kernel_rfl) (by kernel_rfl) (fun _ _ _ h => h) (Or.inl ⟨by rfl, ?_⟩) (by assumption) ?_
                rotate_left
                · (intro w hSw; obtain ⟨q0, q1, q2, q3, q4⟩ := hSw; go_simp; (try with_reducible rfl))
                (try simp only [List.getElem_toArray, List.getElem_cons_zero, List.getElem_cons_succ, Act.put, List.setIfInBounds_toArray, List.set_cons_zero, List.set_cons_succ])
                refine wpAnyH_take (i := 3) (v := ?_) rfl (by kernel_rfl) (by kernel_rfl) (by kernel_rfl) (fun _ _ _ h => h) (Or.inl ⟨by rfl, ?_⟩) (by assumption) ?_
                rotate_left
                · (intro w hSw; obtain ⟨q0, q1, q2, q3, q4⟩ := hSw; go_simp; (try with_reducible rfl))
                (try simp only [List.getElem_toArray, List.getElem_cons_zero, List.getElem_cons_succ, Act.put, List.setIfInBounds_toArray, List.set_cons_zero, List.set_cons_succ])
                refine wpAnyH_take (i := 4) (v := ?_) rfl (by kernel_rfl) (by kernel_rfl) (by kernel_rfl) (fun _ _ _ h => h) (Or.inl ⟨by rfl, ?_⟩) (by assumption) ?_
                rotate_left
                · (intro w hSw; obtain ⟨q0, q1, q2, q3, q4⟩ := hSw; go_simp; (try with_reducible rfl))
                (try simp only [List.getElem_toArray, List.getElem_cons_zero, List.getElem_cons_succ, Act.put, List.setIfInBounds_toArray, List.set_cons_zero, List.set_cons_succ])
                refine wpAnyH_take (i := 5) (v := ?_) rfl (by kernel_rfl) (by kernel_rfl) (by kernel_rfl) (fun _ _ _ h => h) (Or.inl ⟨by rfl, ?_⟩) (by assumption) ?_
                rotate_left
                · (intro w hSw; obtain ⟨q0, q1, q2, q3, q4⟩ := hSw; go_simp; (try with_reducible rfl))
                (try simp only [List.getElem_toArray, List.getElem_cons_zero, List.getElem_cons_succ, Act.put, List.setIfInBounds_toArray, List.set_cons_zero, List.set_cons_succ])
                refine wpAnyH_ready (rs := [6]) (by kernel_rfl) (by simp) ?_
                refine AllReadyH.cons rfl (fun K hK => ?_) AllReadyH.nil
                go_simp
                refine (HKB.out _).mono ?_
                rintro ee w9 ⟨rfl, hby⟩
                have hbx : Below wc.heap.size wc w9 := hbz.trans (hby.mono hbz.size)
                (try go_wp2_with fail)
                refine hK.out _ _ (KS.out _ hbx) (fun hHeld => ?_)
                clear hK K
                (try simp only [List.getElem_toArray, List.getElem_cons_zero, List.getElem_cons_succ, Act.put, List.setIfInBounds_toArray, List.set_cons_zero, List.set_cons_succ])
                refine wpAnyH_take (i := 7) (v := ?_) rfl (by kernel_rfl) (by kernel_rfl) (by kernel_rfl) (fun _ _ _ h => h) (Or.inl ⟨by rfl, ?_⟩) (by assumption) ?_
                rotate_left
                · (intro w hSw; obtain ⟨q0, q1, q2, q3, q4⟩ := hSw; go_simp; (try with_reducible rfl))
                (try simp only [List.getElem_toArray, List.getElem_cons_zero, List.getElem_cons_succ, Act.put, List.setIfInBounds_toArray, List.set_cons_zero, List.set_cons_succ])
                refine wpAnyH_take (i := 8) (v := ?_) rfl (by kernel_rfl) (by kernel_rfl) (by kernel_rfl) (fun _ _ _ h => h) (Or.inl ⟨by rfl, ?_⟩) (by assumption) ?_
                rotate_left
                · (intro w hSw; obtain ⟨q0, q1, q2, q3, q4⟩ := hSw; go_simp; (try with_reducible rfl))
                (try simp only [List.getElem_toArray, List.getElem_cons_zero, List.getElem_cons_succ, Act.put, List.setIfInBounds_toArray, List.set_cons_zero, List.set_cons_succ])
                refine wpAnyH_take (i := 9) (v := ?_) rfl (by kernel_rfl) (by kernel_rfl) (by kernel_rfl) (fun _ _ _ h => h) (Or.inl ⟨by rfl, ?_⟩) (by assumption) ?_
                rotate_left
                · (intro w hSw; obtain ⟨q0, q1, q2, q3, q4⟩ := hSw; go_simp; (try with_reducible rfl))
                (try simp only [List.getElem_toArray, List.getElem_cons_zero, List.getElem_cons_succ, Act.put, List.setIfInBounds_toArray, List.set_cons_zero, List.set_cons_succ])
                have T9 := Lib.hid (T2.out.step hbx)
                have RA9 := Lib.hid (row_step RA.out hbx)
                have RB9 := Lib.hid (row_step RB.out hbx)
                obtain ⟨⟨r0, r1, r2, r3, r4, r5, r6, r7, r8, r9⟩, t0, t1, t2, t3, t4, t5, t6, t7, t8, t9⟩ := out_cells T9.out.res
                refine wpAnyH_ready (rs := [10]) (by kernel_rfl) (by simp) ?_
                refine AllReadyH.cons rfl (fun K hK => ?_) AllReadyH.nil
                go_simp
                refine hK.out _ _ (show _ from ed_cells (setMany_far (KSB.out _ hbx) (by have := HG.out; omega) [(0, .int .i64 ea), (1, .string ⟨ES.toArray⟩), (2, .slice A4 el.length c4), (3, .string ⟨EX.toArray⟩), (4, .slice B4 em.length d4), (5, .string ⟨#[]⟩), (6, .slice none 0 0), (7, .bool false), (8, .bool false), (9, .int .i64 ((p0 : Int) + (sw.length : Nat) - ((enc kn).length : Nat)))])) (fun hHeld => ?_)
                clear hK K
                (try simp only [List.getElem_toArray, List.getElem_cons_zero, List.getElem_cons_succ, Act.put, List.setIfInBounds_toArray, List.set_cons_zero, List.set_cons_succ])
                refine wpAnyH_take (i := 11) (v := ?_) rfl (by kernel_rfl) (by kernel_rfl) (by kernel_rfl) (fun _ _ _ h => h) (Or.inl ⟨by rfl, ?_⟩) (by assumption) ?_
                rotate_left
                · (intro w hSw; obtain ⟨q0, q1, q2, q3, q4⟩ := hSw; go_simp; (try with_reducible rfl))
                (try simp only [List.getElem_toArray, List.getElem_cons_zero, List.getElem_cons_succ, Act.put, List.setIfInBounds_toArray, List.set_cons_zero, List.set_cons_succ])
                refine wpAnyH_done (by kernel_rfl) ?_ _
                go_wp2_with fail
                have EE := out_end (A := A4) (B := B4) (C := none) (l := el) (m := em) (q := []) T9.out.res noLab_out T9.out.bel (by omega) RA9.out RB9.out (.inl rfl) [(0, .int .i64 ea), (1, .string ⟨ES.toArray⟩), (2, .slice A4 el.length c4), (3, .string ⟨EX.toArray⟩), (4, .slice B4 em.length d4), (5, .string ⟨#[]⟩), (6, .slice none 0 0), (7, .bool false), (8, .bool false), (9, .int .i64 ((p0 : Int) + (sw.length : Nat) - ((enc kn).length : Nat)))]
                have EB9 : Blk (setMany w9 (w.heap.size + 1) [(0, .int .i64 ea), (1, .string ⟨ES.toArray⟩), (2, .slice A4 el.length c4), (3, .string ⟨EX.toArray⟩), (4, .slice B4 em.length d4), (5, .string ⟨#[]⟩), (6, .slice none 0 0), (7, .bool false), (8, .bool false), (9, .int .i64 ((p0 : Int) + (sw.length : Nat) - ((enc kn).length : Nat)))]) (w.heap.size + 1) 47 #[.int .i64 ea, .string ⟨ES.toArray⟩, .slice A4 el.length c4, .string ⟨EX.toArray⟩, .slice B4 em.length d4, .string ⟨#[]⟩, .slice none 0 0, .bool false, .bool false, .int .i64 ((p0 : Int) + (sw.length : Nat) - ((enc kn).length : Nat))] := out_ten T9.out.res _ _ _ _ _ _ _ _ _ _
                change bodyPost _ _ _ _ _ (setMany w9 (w.heap.size + 1) [(0, .int .i64 ea), (1, .string ⟨ES.toArray⟩), (2, .slice A4 el.length c4), (3, .string ⟨EX.toArray⟩), (4, .slice B4 em.length d4), (5, .string ⟨#[]⟩), (6, .slice none 0 0), (7, .bool false), (8, .bool false), (9, .int .i64 ((p0 : Int) + (sw.length : Nat) - ((enc kn).length : Nat)))])
                generalize setMany w9 (w.heap.size + 1) [(0, .int .i64 ea), (1, .string ⟨ES.toArray⟩), (2, .slice A4 el.length c4), (3, .string ⟨EX.toArray⟩), (4, .slice B4 em.length d4), (5, .string ⟨#[]⟩), (6, .slice none 0 0), (7, .bool false), (8, .bool false), (9, .int .i64 ((p0 : Int) + (sw.length : Nat) - ((enc kn).length : Nat)))] = wz at *
                refine ret_out rfl _ _ (w.heap.size + 1) #[.int .i64 ea, .string ⟨ES.toArray⟩, .slice A4 el.length c4, .string ⟨EX.toArray⟩, .slice B4 em.length d4, .string ⟨#[]⟩, .slice none 0 0, .bool false, .bool false, .int .i64 ((p0 : Int) + (sw.length : Nat) - ((enc kn).length : Nat))] rfl rfl EB9 rfl ?_
                rw [← HV4.out]
                exact ⟨A4, c4, B4, d4, none, 0, rfl, EE.1, EE.2.1, EE.2.2.1, EE.2.2.2⟩
              · have HV4 := Lib.hid ((if_neg hrn).symm.trans HV3.out)
                clear HV3
                have g17 : ((rn : Int) != 0) = true := by rw [bne_iff_ne]; omega
                have g18 : ((rn : Int) == 0) = false := by rw [beq_eq_false_iff_ne]; omega
                obtain ⟨⟨r0, r1, r2, r3, r4, r5, r6, r7, r8, r9⟩, t0, t1, t2, t3, t4, t5, t6, t7, t8, t9⟩ := out_cells T2.out.res
                go_wp2_with fail
                have EE := out_end (A := none) (B := none) (C := none) (l := []) (m := []) (q := []) T2.out.res noLab_out T2.out.bel (by omega) (.inl rfl) (.inl rfl) (.inl rfl) [(0, .int .i64 0), (1, .string ⟨#[]⟩), (2, .slice none 0 0), (3, .string ⟨#[]⟩), (4, .slice none 0 0), (5, .string ⟨#[]⟩), (6, .slice none 0 0), (7, .bool false), (8, .bool false), (9, .int .i64 0)]
                have EB : Blk (setMany wc (w.heap.size + 1) [(0, .int .i64 0), (1, .string ⟨#[]⟩), (2, .slice none 0 0), (3, .string ⟨#[]⟩), (4, .slice none 0 0), (5, .string ⟨#[]⟩), (6, .slice none 0 0), (7, .bool false), (8, .bool false), (9, .int .i64 0)]) (w.heap.size + 1) 47 #[.int .i64 0, .string ⟨#[]⟩, .slice none 0 0, .string ⟨#[]⟩, .slice none 0 0, .string ⟨#[]⟩, .slice none 0 0, .bool false, .bool false, .int .i64 0] := out_ten T2.out.res _ _ _ _ _ _ _ _ _ _
                change bodyPost _ _ _ _ _ (setMany wc (w.heap.size + 1) [(0, .int .i64 0), (1, .string ⟨#[]⟩), (2, .slice none 0 0), (3, .string ⟨#[]⟩), (4, .slice none 0 0), (5, .string ⟨#[]⟩), (6, .slice none 0 0), (7, .bool false), (8, .bool false), (9, .int .i64 0)])
                generalize setMany wc (w.heap.size + 1) [(0, .int .i64 0), (1, .string ⟨#[]⟩), (2, .slice none 0 0), (3, .string ⟨#[]⟩), (4, .slice none 0 0), (5, .string ⟨#[]⟩), (6, .slice none 0 0), (7, .bool false), (8, .bool false), (9, .int .i64 0)] = wz at *
                refine ret_out rfl _ _ (w.heap.size + 1) #[.int .i64 0, .string ⟨#[]⟩, .slice none 0 0, .string ⟨#[]⟩, .slice none 0 0, .string ⟨#[]⟩, .slice none 0 0, .bool false, .bool false, .int .i64 0] rfl rfl EB rfl ?_
                rw [← HV4.out]
                exact ⟨none, 0, none, 0, none, 0, rfl, EE.1, EE.2.1, EE.2.2.1, EE.2.2.2⟩
    · have g1 := decide_eq_false hk
      have HV2 := Lib.hid ((if_pos (.inr (.inl hk))).symm.trans HV.out)
      clear HV
      have HM := Lib.hid (fun wx => refKMay_any k wx)
      rw [g1] at HM
      go_upto_region 3 with (go_at_call 70; refine (HM.out _).mono ?_; rintro ee w4 ⟨rfl, hw4⟩; subst w4)
      obtain ⟨⟨r0, r1, r2, r3, r4, r5, r6, r7, r8, r9⟩, t0, t1, t2, t3, t4, t5, t6, t7, t8, t9⟩ := out_cells T.out.res
      go_wp2_with fail
      have EE := out_end (A := none) (B := none) (C := none) (l := []) (m := []) (q := []) T.out.res noLab_out T.out.bel (by omega) (.inl rfl) (.inl rfl) (.inl rfl) [(0, .int .i64 0), (1, .string ⟨#[]⟩), (2, .slice none 0 0), (3, .string ⟨#[]⟩), (4, .slice none 0 0), (5, .string ⟨#[]⟩), (6, .slice none 0 0), (7, .bool false), (8, .bool false), (9, .int .i64 0)]
      have EB : Blk (setMany w2 (w.heap.size + 1) [(0, .int .i64 0), (1, .string ⟨#[]⟩), (2, .slice none 0 0), (3, .string ⟨#[]⟩), (4, .slice none 0 0), (5, .string ⟨#[]⟩), (6, .slice none 0 0), (7, .bool false), (8, .bool false), (9, .int .i64 0)]) (w.heap.size + 1) 47 #[.int .i64 0, .string ⟨#[]⟩, .slice none 0 0, .string ⟨#[]⟩, .slice none 0 0, .string ⟨#[]⟩, .slice none 0 0, .bool false, .bool false, .int .i64 0] := out_ten T.out.res _ _ _ _ _ _ _ _ _ _
      change bodyPost _ _ _ _ _ (setMany w2 (w.heap.size + 1) [(0, .int .i64 0), (1, .string ⟨#[]⟩), (2, .slice none 0 0), (3, .string ⟨#[]⟩), (4, .slice none 0 0), (5, .string ⟨#[]⟩), (6, .slice none 0 0), (7, .bool false), (8, .bool false), (9, .int .i64 0)])
      generalize setMany w2 (w.heap.size + 1) [(0, .int .i64 0), (1, .string ⟨#[]⟩), (2, .slice none 0 0), (3, .string ⟨#[]⟩), (4, .slice none 0 0), (5, .string ⟨#[]⟩), (6, .slice none 0 0), (7, .bool false), (8, .bool false), (9, .int .i64 0)] = wz at *
      refine ret_out rfl _ _ (w.heap.size + 1) #[.int .i64 0, .string ⟨#[]⟩, .slice none 0 0, .string ⟨#[]⟩, .slice none 0 0, .string ⟨#[]⟩, .slice none 0 0, .bool false, .bool false, .int .i64 0] rfl rfl EB rfl ?_
      rw [← HV2.out]
      exact ⟨none, 0, none, 0, none, 0, rfl, EE.1, EE.2.1, EE.2.2.1, EE.2.2.2⟩
  · have HV2 := Lib.hid ((if_pos (.inl hn)).symm.trans HV.out)
    have g0 : ((vn : Int) != 0) = true := by rw [bne_iff_ne]; omega
    clear HV
    go_upto_region 3 with fail
    obtain ⟨⟨r0, r1, r2, r3, r4, r5, r6, r7, r8, r9⟩, t0, t1, t2, t3, t4, t5, t6, t7, t8, t9⟩ := out_cells T.out.res
    go_wp2_with fail
    have EE := out_end (A := none) (B := none) (C := none) (l := []) (m := []) (q := []) T.out.res noLab_out T.out.bel (by omega) (.inl rfl) (.inl rfl) (.inl rfl) [(0, .int .i64 0), (1, .string ⟨#[]⟩), (2, .slice none 0 0), (3, .string ⟨#[]⟩), (4, .slice none 0 0), (5, .string ⟨#[]⟩), (6, .slice none 0 0), (7, .bool false), (8, .bool false), (9, .int .i64 0)]
    have EB : Blk (setMany w2 (w.heap.size + 1) [(0, .int .i64 0), (1, .string ⟨#[]⟩), (2, .slice none 0 0), (3, .string ⟨#[]⟩), (4, .slice none 0 0), (5, .string ⟨#[]⟩), (6, .slice none 0 0), (7, .bool false), (8, .bool false), (9, .int .i64 0)]) (w.heap.size + 1) 47 #[.int .i64 0, .string ⟨#[]⟩, .slice none 0 0, .string ⟨#[]⟩, .slice none 0 0, .string ⟨#[]⟩, .slice none 0 0, .bool false, .bool false, .int .i64 0] := out_ten T.out.res _ _ _ _ _ _ _ _ _ _
    change bodyPost _ _ _ _ _ (setMany w2 (w.heap.size + 1) [(0, .int .i64 0), (1, .string ⟨#[]⟩), (2, .slice none 0 0), (3, .string ⟨#[]⟩), (4, .slice none 0 0), (5, .string ⟨#[]⟩), (6, .slice none 0 0), (7, .bool false), (8, .bool false), (9, .int .i64 0)])
    generalize setMany w2 (w.heap.size + 1) [(0, .int .i64 0), (1, .string ⟨#[]⟩), (2, .slice none 0 0), (3, .string ⟨#[]⟩), (4, .slice none 0 0), (5, .string ⟨#[]⟩), (6, .slice none 0 0), (7, .bool false), (8, .bool false), (9, .int .i64 0)] = wz at *
    refine ret_out rfl _ _ (w.heap.size + 1) #[.int .i64 0, .string ⟨#[]⟩, .slice none 0 0, .string ⟨#[]⟩, .slice none 0 0, .string ⟨#[]⟩, .slice none 0 0, .bool false, .bool false, .int .i64 0] rfl rfl EB rfl ?_
    rw [← HV2.out]
    exact ⟨none, 0, none, 0, none, 0, rfl, EE.1, EE.2.1, EE.2.2.1, EE.2.2.2⟩
end Go.Proofs.YtgpmfkedcoiopaaGreatDoor

/-
  Entries that are put, as plain lists: layer 14.
-/
namespace Go.Proofs.YtgpmfkedcoiopaaGreatDoor
open Go.RowKit

/-- a line end of a level -/
def nlT (y : Nat) : TP := ([10], pack (List.replicate 1 y))
/-- where whole lines are put -/
def putAt (V : List UInt8) (q : Nat) (ah : Bool) : Nat := if ah = true then (boundsL V (q : Nat)).1.1 else if q + 1 < countL V then (boundsL V ((q + 1 : Nat) : Int)).1.1 else V.length
def putLst (V : List UInt8) (q : Nat) (ah : Bool) (X : List UInt8) (m : List RunP) (y : Nat) : List TP := if ah = true ∨ q + 1 < countL V then [(X, m), nlT y] else [nlT y, (X, m)]
def putLine (q : Nat) (ah : Bool) : Nat := if ah = true then q else q + 1
/-- an edit that lays a pile at a place -/
def layM (S : List UInt8) (l : List RunP) (y p : Nat) (r : Option TP) : (EdP × List UInt8) × Nat := turnedM S l y (p : Nat) (p : Nat) (r.getD ([], [])).1 (r.getD ([], [])).2 r.isSome
def putLM (S : List UInt8) (l : List RunP) (V : List UInt8) (y a : Nat) (X : List UInt8) (m : List RunP) (ah : Bool) (n : Nat) : OutP × Nat :=
  if (layM S l y (putAt V (ofL V (a : Nat)) ah) (timesM (putLst V (ofL V (a : Nat)) ah X m y) n)).2 = 0 then
    (⟨(layM S l y (putAt V (ofL V (a : Nat)) ah) (timesM (putLst V (ofL V (a : Nat)) ah X m y) n)).1.1, [], [], false, false, (firstL (layM S l y (putAt V (ofL V (a : Nat)) ah) (timesM (putLst V (ofL V (a : Nat)) ah X m y) n)).1.2 (putLine (ofL V (a : Nat)) ah : Nat) : Nat)⟩, 0)
  else (out0, (layM S l y (putAt V (ofL V (a : Nat)) ah) (timesM (putLst V (ofL V (a : Nat)) ah X m y) n)).2)
/-- where an entry without lines is put -/
def putTo (V : List UInt8) (a : Nat) (ah : Bool) : Nat := if ah = false ∧ a < V.length ∧ V[a]? ≠ some 10 then nextM V (a : Nat) else a
def putM (S : List UInt8) (l : List RunP) (y : Nat) (p : Int) (X : List UInt8) (m : List RunP) (b ah : Bool) (n : Int) : OutP × Nat :=
  if (viewOf S l y).2 ≠ 0 ∨ goodT X m = false then (out0, 2)
  else if b = true then putLM S l (viewOf S l y).1 y (alignM (viewOf S l y).1 p) X m ah (manyM n)
  else if (layM S l y (putTo (viewOf S l y).1 (alignM (viewOf S l y).1 p) ah) (timesM [(X, m)] (manyM n))).2 = 0 then
    (⟨(layM S l y (putTo (viewOf S l y).1 (alignM (viewOf S l y).1 p) ah) (timesM [(X, m)] (manyM n))).1.1, [], [], false, false,
      (if ((timesM [(X, m)] (manyM n)).getD ([], [])).1.length = 0 then (alignM (viewOf S l y).1 p : Nat) else
        (alignM (layM S l y (putTo (viewOf S l y).1 (alignM (viewOf S l y).1 p) ah) (timesM [(X, m)] (manyM n))).1.2 ((putTo (viewOf S l y).1 (alignM (viewOf S l y).1 p) ah : Nat) + ((timesM [(X, m)] (manyM n)).getD ([], [])).1.length - 1 : Int) : Nat) : Nat)⟩, 0)
  else (out0, (layM S l y (putTo (viewOf S l y).1 (alignM (viewOf S l y).1 p) ah) (timesM [(X, m)] (manyM n))).2)
end Go.Proofs.YtgpmfkedcoiopaaGreatDoor

/-
  The document's putLines: layer 14.
-/
namespace Go.Proofs.YtgpmfkedcoiopaaGreatDoor
open Go.RowKit
set_option maxRecDepth 100000

/-- what is kept where two texts and an answer lie in boxes -/
structure PutK (w wr : World) (A : Option Addr) (c : Nat) (S : List UInt8) (l : List RunP) (A2 : Option Addr) (c2 : Nat) (X : List UInt8) (m : List RunP) : Prop where
  t5 : Blk wr w.heap.size 32 #[.string ⟨S.toArray⟩, .slice A l.length c]
  x5 : Blk wr (w.heap.size + 1) 32 #[.string ⟨X.toArray⟩, .slice A2 m.length c2]
  res : Blk wr (w.heap.size + 1 + 1) 47 #[.int .i64 0, .string ⟨#[]⟩, .slice none 0 0, .string ⟨#[]⟩, .slice none 0 0, .string ⟨#[]⟩, .slice none 0 0, .bool false, .bool false, .int .i64 0]
  bel : Below w.heap.size w wr
  tS : Txu wr A S l
  tX : Txu wr A2 X m
section
variable {w wr w' : World} {A A2 : Option Addr} {c c2 : Nat} {S X : List UInt8} {l m : List RunP}
theorem PutK.step (h : PutK w wr A c S l A2 c2 X m) (hb : Below wr.heap.size wr w') : PutK w w' A c S l A2 c2 X m :=
  ⟨h.t5.below hb h.t5.lt, h.x5.below hb h.x5.lt, h.res.below hb h.res.lt, h.bel.trans (hb.mono h.bel.size), grow_txu h.tS _ hb, grow_txu h.tX _ hb⟩
end
/-- texts in a row -/
structure LstK (wr : World) (A7 : Option Addr) (ts : List TextP) : Prop where
  tx : ∀ r ∈ ts, Txu wr r.A r.S r.l
  row : Row wr wr.heap.size A7 (flatX ts)
theorem LstK.step {wr w' : World} {A7 : Option Addr} {ts : List TextP} (h : LstK wr A7 ts) (hb : Below wr.heap.size wr w') : LstK w' A7 ts := ⟨fun r hr => grow_txu (h.tx r hr) _ hb, row_step h.row hb⟩
theorem LstK.two {wr : World} {S X : List UInt8} {A A2 : Option Addr} {c c2 : Nat} {l m : List RunP} (h : Txu wr A S l) (hX : Txu wr A2 X m) :
    LstK (wr.alloc (.cells #[.string ⟨S.toArray⟩, .slice A l.length c, .string ⟨X.toArray⟩, .slice A2 m.length c2] 32)) (some ⟨wr.heap.size, 0, none⟩) [⟨S, A, c, l⟩, ⟨X, A2, c2, m⟩] := by
  have hb : Below wr.heap.size wr (wr.alloc (.cells #[.string ⟨S.toArray⟩, .slice A l.length c, .string ⟨X.toArray⟩, .slice A2 m.length c2] 32)) := (Below.refl _ _).alloc (Nat.le_refl _) _
  refine ⟨fun r hr => ?_, ?_⟩
  · simp only [List.mem_cons, List.not_mem_nil, or_false] at hr
    rcases hr with rfl | rfl
    · exact grow_txu h _ hb
    · exact grow_txu hX _ hb
  · have := row_newL wr 32 [.string ⟨S.toArray⟩, .slice A l.length c, .string ⟨X.toArray⟩, .slice A2 m.length c2]
    simpa [flatX] using this
theorem LstK.one {wr : World} {S : List UInt8} {A : Option Addr} {c : Nat} {l : List RunP} (h : Txu wr A S l) :
    LstK (wr.alloc (.cells #[.string ⟨S.toArray⟩, .slice A l.length c] 32)) (some ⟨wr.heap.size, 0, none⟩) [⟨S, A, c, l⟩] := by
  have hb : Below wr.heap.size wr (wr.alloc (.cells #[.string ⟨S.toArray⟩, .slice A l.length c] 32)) := (Below.refl _ _).alloc (Nat.le_refl _) _
  refine ⟨fun r hr => ?_, ?_⟩
  · rw [List.mem_singleton] at hr
    subst hr
    exact grow_txu h _ hb
  · have := row_newL wr 32 [.string ⟨S.toArray⟩, .slice A l.length c]
    simpa [flatX] using this
theorem times_fit {L : List TP} {n : Nat} {Y : List UInt8} {q : List RunP} (hf : ∀ x ∈ labsC L, x < 18446744073709551616) (h : timesM L n = some (Y, q)) : Y.length ≤ 4096 ∧ Fits q ∧ q.length ≤ maxLen := by
  unfold timesM at h
  cases hp : pileM L with
  | none => rw [hp] at h; cases h
  | some x =>
    rw [hp] at h
    dsimp only at h
    split at h
    · have hx : x = (bytesC L, pack (labsC L)) := by
        unfold pileM at hp
        split at hp
        · exact (Option.some.inj hp).symm
        · cases hp
      have hf2 : ∀ z ∈ labsC (List.replicate n x), z < 18446744073709551616 := fun z hz => by
        unfold labsC at hz
        rw [List.mem_flatMap] at hz
        obtain ⟨t, ht, hz⟩ := hz
        rw [(List.mem_replicate.1 ht).2, hx] at hz
        dsimp only at hz
        rw [bytesOf_pack] at hz
        exact hf z hz
      obtain ⟨h1, h2⟩ := pile_fits hf2 h
      exact ⟨(goodT_size (pile_good h)).1, h1, h2⟩
    · cases h
theorem bounds_leP (V : List UInt8) (n : Int) : (boundsL V n).1.1 ≤ V.length ∧ (boundsL V n).1.2 ≤ V.length := by
  by_cases h : 0 ≤ n ∧ n < (countL V : Int)
  · obtain ⟨k, rfl⟩ : ∃ k : Nat, n = k := ⟨n.toNat, by omega⟩
    have hk : k < countL V := by omega
    rw [boundsL_nat hk]
    exact ⟨beg_le hk, end_le hk⟩
  · rw [boundsL_out h]
    exact ⟨Nat.zero_le _, Nat.zero_le _⟩
set_option maxHeartbeats 16000000 in
theorem refPPutLines_any (A A2 : Option Addr) (c c2 : Nat) (S X : List UInt8) (l m : List RunP) (V : List UInt8) (hV : V.length ≤ 4096) (y : Nat) (hy : y < 18446744073709551616) (a : Nat) (ah : Bool) (n : Nat) (hn : 1 ≤ n ∧ n ≤ 999) (w : World) (h : Txu w A S l) (hX : Txu w A2 X m) :
    Calls Tryz.prog 78 #[.agg #[.string ⟨S.toArray⟩, .slice A l.length c], .string ⟨V.toArray⟩, .int .u64 (y : Nat), .int .i64 (a : Nat), .agg #[.string ⟨X.toArray⟩, .slice A2 m.length c2], .bool ah, .int .i64 (n : Nat)] w (GivesO w (putLM S l V y a X m ah n)) := by
  obtain ⟨v, hv⟩ : ∃ v, putLM S l V y a X m ah n = v := ⟨_, rfl⟩
  rw [hv]
  unfold putLM at hv
  have hmk : makeOf [10] y = (([10], pack (List.replicate 1 y)), 0) := if_pos (by simp)
  have HMD := Lib.hid (fun wx => refPMade_any [10] (by unfold maxLen; simp) y hy wx)
  rw [hmk] at HMD
  dsimp only at HMD
  have HNF : Hid (Fits (pack (List.replicate 1 y)) ∧ (pack (List.replicate 1 y)).length ≤ maxLen) := by
    constructor
    · exact fits_pack (fun x hx => by rw [(List.mem_replicate.1 hx).2]; exact hy) (by simp)
    · have := pack_len (List.replicate 1 y)
      rw [List.length_replicate] at this
      unfold maxLen
      omega
  obtain ⟨q, hq⟩ : ∃ q, ofL V (a : Nat) = q := ⟨_, rfl⟩
  rw [hq] at hv
  have hql : q < countL V := by rw [← hq]; exact ofL_le V _
  have hcl := countL_le V
  have HOF := Lib.hid (fun wx => refOf_any V (by omega) (a : Nat) wx)
  rw [hq] at HOF
  have HBO := Lib.hid (fun (j : Int) wx => refBounds_any V (by omega) j wx)
  have HCO := Lib.hid (fun wx => refCount_any V (by omega) wx)
  have hpa : Hid (putAt V q ah = if ah = true then (boundsL V (q : Nat)).1.1 else if q + 1 < countL V then (boundsL V ((q + 1 : Nat) : Int)).1.1 else V.length) := rfl
  have hpl : Hid (putLst V q ah X m y = if ah = true ∨ q + 1 < countL V then [(X, m), ([10], pack (List.replicate 1 y))] else [([10], pack (List.replicate 1 y)), (X, m)]) := rfl
  have hpi : Hid (putLine q ah = if ah = true then q else q + 1) := rfl
  have HNL : Hid (nlT y = ([10], pack (List.replicate 1 y))) := rfl
  generalize hnl : pack (List.replicate 1 y) = nl at *
  have hb1 := bounds_leP V (q : Nat)
  have hb2 := bounds_leP V ((q + 1 : Nat) : Int)
  have HV := Lib.hid hv
  clear hv hmk hq hnl
  have BX := Lib.hid (boxesE3 w 32 32 47 #[.string ⟨S.toArray⟩, .slice A l.length c] #[.string ⟨X.toArray⟩, .slice A2 m.length c2] #[.int .i64 0, .string ⟨#[]⟩, .slice none 0 0, .string ⟨#[]⟩, .slice none 0 0, .string ⟨#[]⟩, .slice none 0 0, .bool false, .bool false, .int .i64 0])
  have K := Lib.hid (BX.out.and (((grow_txu h).and (grow_txu hX)).step BX.out.now.2.2.2))
  clear h hX BX
  go_enter Tryz.func78, Tryz.ntmps78
  go_upto_region 1 with fail
  generalize ((w.alloc (.cells #[.string ⟨S.toArray⟩, .slice A l.length c] 32)).alloc (.cells #[.string ⟨X.toArray⟩, .slice A2 m.length c2] 32)).alloc (.cells #[.int .i64 0, .string ⟨#[]⟩, .slice none 0 0, .string ⟨#[]⟩, .slice none 0 0, .string ⟨#[]⟩, .slice none 0 0, .bool false, .bool false, .int .i64 0] 47) = wx at *
  have T : Hid (PutK w wx A c S l A2 c2 X m) := by
    have k := K.out.now
    exact ⟨k.1.1, k.1.2.1, k.1.2.2.1, k.1.2.2.2, k.2.1, k.2.2⟩
  clear K
  go_upto_region 2 with (go_at_call 43; refine (HOF.out _).mono ?_; rintro ee wv ⟨rfl, bb⟩; replace T := Lib.hid (T.out.step bb); clear bb)
  go_cut [17] (fun s17 wq => ∃ (g : Nat) (A3 : Option Addr) (c3 : Nat), s17 = .slice (some ⟨g, 0, none⟩) 2 2 ∧ Hid (LstK wq (some ⟨g, 0, none⟩) [⟨X, A2, c2, m⟩, ⟨[10], A3, c3, nl⟩]) ∧ Hid (PutK w wq A c S l A2 c2 X m))
  case first =>
    have hb0 : Below wv.heap.size wv wv := Below.refl _ _
    have hbz : Below wv.heap.size wv wv.drew := below_drewN hb0 1
    have KS : Hid (∀ w', Below wv.heap.size wv w' → w'.cell? ⟨w.heap.size + 1, 0, none⟩ = some (.string ⟨X.toArray⟩) ∧ w'.cell? ⟨w.heap.size + 1, 1, none⟩ = some (.slice A2 m.length c2)) := fun w' hb => txt_cells (T.out.step hb).x5
    refine wp_region_held_drew (S := fun w' => w'.cell? ⟨w.heap.size + 1, 0, none⟩ = some (.string ⟨X.toArray⟩) ∧ w'.cell? ⟨w.heap.size + 1, 1, none⟩ = some (.slice A2 m.length c2)) (by kernel_rfl) (KS.out _ hbz) (fun hHeld => ?_)
    refine wpAnyH_take (i := 0) (v := ?_) rfl (by kernel_rfl) (by kernel_rfl) (by kernel_rfl) (fun _ _ _ h => h) (Or.inl ⟨by rfl, ?_⟩) (by assumption) ?_
    rotate_left
    · (intro w hSw; obtain ⟨q0, q1⟩ := hSw; go_simp; (try with_reducible rfl))
    (try simp only [List.getElem_toArray, List.getElem_cons_zero, Act.put, List.setIfInBounds_toArray, List.set_cons_zero, List.set_cons_succ])
    refine wpAnyH_take (i := 1) (v := ?_) rfl (by kernel_rfl) (by kernel_rfl) (by kernel_rfl) (fun _ _ _ h => h) (Or.inl ⟨by rfl, ?_⟩) (by assumption) ?_
    rotate_left
    · (intro w hSw; obtain ⟨q0, q1⟩ := hSw; go_simp; (try with_reducible rfl))
    (try simp only [List.getElem_toArray, List.getElem_cons_zero, List.getElem_cons_succ, Act.put, List.setIfInBounds_toArray, List.set_cons_zero, List.set_cons_succ])
    refine wpAnyH_ready (rs := [2]) (by kernel_rfl) (by simp) ?_
    refine AllReadyH.cons rfl (fun K hK => ?_) AllReadyH.nil
    go_simp
    refine (HMD.out _).mono ?_
    rintro ee w3 ⟨A3, c3, rfl, own3, bb3⟩
    have RR3 := Row.of_own own3
    have hbx : Below wv.heap.size wv w3 := hbz.trans (bb3.mono hbz.size)
    (try go_wp2_with fail)
    refine hK.out _ _ (KS.out _ hbx) (fun hHeld => ?_)
    clear hK K
    (try simp only [List.getElem_toArray, List.getElem_cons_zero, List.getElem_cons_succ, Act.put, List.setIfInBounds_toArray, List.set_cons_zero, List.set_cons_succ])
    have L3 : LstK (w3.alloc (.cells #[.string ⟨X.toArray⟩, .slice A2 m.length c2, .string ⟨#[10]⟩, .slice A3 nl.length c3] 32)) (some ⟨w3.heap.size, 0, none⟩) [⟨X, A2, c2, m⟩, ⟨[10], A3, c3, nl⟩] := LstK.two (T.out.step hbx).tX ⟨by unfold maxLen; simp, HNF.out.1, HNF.out.2, RR3⟩
    have hbq : Below wv.heap.size wv (w3.alloc (.cells #[.string ⟨X.toArray⟩, .slice A2 m.length c2, .string ⟨#[10]⟩, .slice A3 nl.length c3] 32)) := hbx.alloc hbx.size _
    refine wpAnyH_ready (rs := [3]) (by kernel_rfl) (by simp) ?_
    refine AllReadyH.cons rfl (fun K hK => ?_) AllReadyH.nil
    go_simp
    refine hK.out _ _ (KS.out _ hbq) (fun hHeld => ?_)
    clear hK K
    (try simp only [List.getElem_toArray, List.getElem_cons_zero, List.getElem_cons_succ, Act.put, List.setIfInBounds_toArray, List.set_cons_zero, List.set_cons_succ])
    refine wpAnyH_take (i := 4) (v := ?_) rfl (by kernel_rfl) (by kernel_rfl) (by kernel_rfl) (fun _ _ _ h => h) (Or.inl ⟨by rfl, ?_⟩) (by assumption) ?_
    rotate_left
    · (intro w hSw; obtain ⟨q0, q1⟩ := hSw; go_simp; (try with_reducible rfl))
    (try simp only [List.getElem_toArray, List.getElem_cons_zero, List.getElem_cons_succ, Act.put, List.setIfInBounds_toArray, List.set_cons_zero, List.set_cons_succ])
    refine wpAnyH_done (by kernel_rfl) ?_ _
    go_wp2_with fail
    go_meet
    exact ⟨_, A3, c3, rfl, L3, T.out.step hbq⟩
  case rest =>
    obtain ⟨g, A3, c3, rfl, L, T⟩ := hcut
    go_upto_if 41 with (go_at_call 71; refine (HBO.out (q : Nat) _).mono ?_; unfold Gives3; rintro ee wv ⟨rfl, bb⟩; replace T := Lib.hid (T.out.step bb); replace L := Lib.hid (L.out.step bb); clear bb)
    go_cut [16, 17, 18] (fun s16 s17 s18 wq => s16 = .int .i64 (putLine q ah : Nat) ∧ s18 = .int .i64 (putAt V q ah : Nat) ∧ ∃ (A7 : Option Addr) (ts : List TextP), s17 = .slice A7 2 2 ∧ ts.length = 2 ∧ Hid (ts.map TextP.tp = putLst V q ah X m y) ∧ Hid (LstK wq A7 ts) ∧ Hid (PutK w wq A c S l A2 c2 X m))
    case first =>
      cases ah with
      | true =>
        go_wp2_with fail
        go_meet
        exact ⟨by rw [hpi.out]; rfl, by rw [hpa.out]; rfl, _, _, rfl, rfl, by rw [Hid, hpl.out, if_pos (by simp)]; rfl, L, T⟩
      | false =>
        by_cases hlt : q + 1 < countL V
        · have hlt1 : (q : Int) + 1 < (countL V : Int) := by omega
          have he1 : ((q + 1 : Nat) : Int) = (q : Int) + 1 := by omega
          have HE1 := Lib.hid he1
          clear he1
          go_wp2_with (first
            | (go_at_call 106; refine (HCO.out _).mono ?_; rintro ee w4 ⟨rfl, bb⟩; replace T := Lib.hid (T.out.step bb); replace L := Lib.hid (L.out.step bb); clear bb)
            | (go_at_call 71; refine (HBO.out ((q : Int) + 1) _).mono ?_; unfold Gives3; rintro ee w5 ⟨rfl, bb⟩; replace T := Lib.hid (T.out.step bb); replace L := Lib.hid (L.out.step bb); clear bb))
          go_meet
          exact ⟨by rw [hpi.out]; rfl, by rw [hpa.out, if_neg (by decide), if_pos hlt, HE1.out], _, _, rfl, rfl, by rw [Hid, hpl.out, if_pos (.inr hlt)]; rfl, L, T⟩
        · have hlt1 : ¬ (q : Int) + 1 < (countL V : Int) := by omega
          go_upto_region 9 with (go_at_call 106; refine (HCO.out _).mono ?_; rintro ee wv ⟨rfl, bb⟩; replace T := Lib.hid (T.out.step bb); clear bb L)
          have hb0 : Below wv.heap.size wv wv := Below.refl _ _
          have hbz : Below wv.heap.size wv wv.drew := below_drewN hb0 1
          have KS : Hid (∀ w', Below wv.heap.size wv w' → w'.cell? ⟨w.heap.size + 1, 0, none⟩ = some (.string ⟨X.toArray⟩) ∧ w'.cell? ⟨w.heap.size + 1, 1, none⟩ = some (.slice A2 m.length c2)) := fun w' hb => txt_cells (T.out.step hb).x5
          refine wp_region_held_drew (S := fun w' => w'.cell? ⟨w.heap.size + 1, 0, none⟩ = some (.string ⟨X.toArray⟩) ∧ w'.cell? ⟨w.heap.size + 1, 1, none⟩ = some (.slice A2 m.length c2)) (by kernel_rfl) (KS.out _ hbz) (fun hHeld => ?_)
          refine wpAnyH_take (i := 0) (v := ?_) rfl (by kernel_rfl) (by kernel_rfl) (by kernel_rfl) (fun _ _ _ h => h) (Or.inl ⟨by rfl, ?_⟩) (by assumption) ?_
          rotate_left
          · (intro w hSw; obtain ⟨q0, q1⟩ := hSw; go_simp; (try with_reducible rfl))
          (try simp only [List.getElem_toArray, List.getElem_cons_zero, Act.put, List.setIfInBounds_toArray, List.set_cons_zero, List.set_cons_succ])
          refine wpAnyH_take (i := 2) (v := ?_) rfl (by kernel_rfl) (by kernel_rfl) (by kernel_rfl) (fun _ _ _ h => h) (Or.inl ⟨by rfl, ?_⟩) (by assumption) ?_
          rotate_left
          · (intro w hSw; obtain ⟨q0, q1⟩ := hSw; go_simp; (try with_reducible rfl))
          (try simp only [List.getElem_toArray, List.getElem_cons_zero, List.getElem_cons_succ, Act.put, List.setIfInBounds_toArray, List.set_cons_zero, List.set_cons_succ])
          refine wpAnyH_ready (rs := [1]) (by kernel_rfl) (by simp) ?_
          refine AllReadyH.cons rfl (fun K hK => ?_) AllReadyH.nil
          go_simp
          refine (HMD.out _).mono ?_
          rintro ee w3 ⟨A3, c3, rfl, own3, bb3⟩
          have RR3 := Row.of_own own3
          have hbx : Below wv.heap.size wv w3 := hbz.trans (bb3.mono hbz.size)
          (try go_wp2_with fail)
          refine hK.out _ _ (KS.out _ hbx) (fun hHeld => ?_)
          clear hK K
          (try simp only [List.getElem_toArray, List.getElem_cons_zero, List.getElem_cons_succ, Act.put, List.setIfInBounds_toArray, List.set_cons_zero, List.set_cons_succ])
          have L3 : LstK (w3.alloc (.cells #[.string ⟨#[10]⟩, .slice A3 nl.length c3, .string ⟨X.toArray⟩, .slice A2 m.length c2] 32)) (some ⟨w3.heap.size, 0, none⟩) [⟨[10], A3, c3, nl⟩, ⟨X, A2, c2, m⟩] := LstK.two ⟨by unfold maxLen; simp, HNF.out.1, HNF.out.2, RR3⟩ (T.out.step hbx).tX
          have hbq : Below wv.heap.size wv (w3.alloc (.cells #[.string ⟨#[10]⟩, .slice A3 nl.length c3, .string ⟨X.toArray⟩, .slice A2 m.length c2] 32)) := hbx.alloc hbx.size _
          refine wpAnyH_ready (rs := [3]) (by kernel_rfl) (by simp) ?_
          refine AllReadyH.cons rfl (fun K hK => ?_) AllReadyH.nil
          go_simp
          refine hK.out _ _ (KS.out _ hbq) (fun hHeld => ?_)
          clear hK K
          (try simp only [List.getElem_toArray, List.getElem_cons_zero, List.getElem_cons_succ, Act.put, List.setIfInBounds_toArray, List.set_cons_zero, List.set_cons_succ])
          refine wpAnyH_take (i := 4) (v := ?_) rfl (by kernel_rfl) (by kernel_rfl) (by kernel_rfl) (fun _ _ _ h => h) (Or.inl ⟨by rfl, ?_⟩) (by assumption) ?_
          rotate_left
          · (intro w hSw; obtain ⟨q0, q1⟩ := hSw; go_simp; (try with_reducible rfl))
          (try simp only [List.getElem_toArray, List.getElem_cons_zero, List.getElem_cons_succ, Act.put, List.setIfInBounds_toArray, List.set_cons_zero, List.set_cons_succ])
          refine wpAnyH_done (by kernel_rfl) ?_ _
          go_wp2_with fail
          go_meet
          exact ⟨by rw [hpi.out]; rfl, by rw [hpa.out, if_neg (by decide), if_neg hlt], _, _, rfl, rfl, by rw [Hid, hpl.out, if_neg (by rintro (e | e); exact absurd e (by decide); exact hlt e)]; rfl, L3, T.out.step hbq⟩
    case rest =>
      obtain ⟨rfl, rfl, A7, ts, rfl, hlen, hts, L2, T2⟩ := hcut
      have HTF := Lib.hid (texts_fit L2.out.tx)
      rw [hts.out] at HTF
      have HTI : Hid (Calls Tryz.prog 79 #[.slice A7 2 2, .int .i64 (n : Nat)] wc (GivesTB wc (timesM (putLst V q ah X m y) n))) := by
        have := refPTimes_any A7 2 ts (by omega) n (by omega) wc L2.out.tx L2.out.row
        rw [hlen, hts.out] at this
        exact this
      have HFT := Lib.hid (fun Y k => times_fit (L := putLst V q ah X m y) (n := n) (Y := Y) (q := k) HTF.out)
      generalize timesM (putLst V q ah X m y) n = r at *
      have HY : Hid ((r.getD ([], [])).1.length ≤ 4096 ∧ Fits (r.getD ([], [])).2 ∧ (r.getD ([], [])).2.length ≤ maxLen) := by
        rcases r with _ | ⟨Y, k⟩
        · exact ⟨Nat.zero_le _, fun r hr => by simp at hr, Nat.zero_le _⟩
        · exact HFT.out Y k rfl
      clear HFT HTF hts HMD HNF HNL hpl hpi hlen
      unfold layM at HV
      unfold GivesTB at HTI
      generalize r.getD ([], []) = Yp at *
      generalize r.isSome = ft at *
      obtain ⟨Y, yq⟩ := Yp
      dsimp only at HY HV
      obtain ⟨tm, htm⟩ : ∃ tm, turnedM S l y (putAt V q ah : Nat) (putAt V q ah : Nat) Y yq ft = tm := ⟨_, rfl⟩
      rw [htm] at HV
      have HTM := Lib.hid htm
      have hwl := turned_view S l y (putAt V q ah : Nat) (putAt V q ah : Nat) Y yq ft
      rw [htm] at hwl
      clear htm
      obtain ⟨⟨⟨ea, ES, el, EX, em⟩, W⟩, rn⟩ := tm
      dsimp only at HV hwl
      have HFI := Lib.hid (fun wx => refFirst_any W (by omega) (putLine q ah : Nat) wx)
      generalize putAt V q ah = pa at *
      generalize putLine q ah = ln at *
      have HTU : Hid (∀ wx A8 c8, Txu wx A S l → Txu wx A8 Y yq → Calls Tryz.prog 73 #[.agg #[.string ⟨S.toArray⟩, .slice A l.length c], .int .u64 (y : Nat), .int .i64 (pa : Nat), .int .i64 (pa : Nat), .agg #[.string ⟨Y.toArray⟩, .slice A8 yq.length c8], .bool ft] wx (GivesEV wx ((⟨ea, ES, el, EX, em⟩, W), rn))) := fun wx A8 c8 h1 h2 => by
        have := refPTurned_any A A8 c c8 S l y hy (pa : Nat) (pa : Nat) Y yq ft wx h1 h2
        rw [HTM.out] at this
        exact this
      clear L2 HTM
      go_upto_region 11 with (go_at_call 79; refine HTI.out.mono ?_; rintro ee w6 ⟨A8, c8, rfl, own6, bb⟩; dsimp only at own6 ⊢; replace T2 := Lib.hid ((T2.out.step bb).step ((Below.refl _ _).alloc (Nat.le_refl _) (.cells #[.string ⟨Y.toArray⟩, .slice A8 yq.length c8] 32))); have YB := Lib.hid (Blk.new w6 32 #[.string ⟨Y.toArray⟩, .slice A8 yq.length c8]); have TY : Hid (Txu (w6.alloc (.cells #[.string ⟨Y.toArray⟩, .slice A8 yq.length c8] 32)) A8 Y yq) := grow_txu (wx := w6) ⟨by have := HY.out.1; unfold maxLen; omega, HY.out.2.1, HY.out.2.2, Row.of_own own6⟩ _ ((Below.refl _ _).alloc (Nat.le_refl _) _); clear own6 bb)
      clear HTI
      generalize hg6 : w6.heap.size = g6 at *
      generalize w6.alloc (.cells #[.string ⟨Y.toArray⟩, .slice A8 yq.length c8] 32) = w7 at *
      clear hg6
      obtain ⟨y0, y1⟩ := txt_cells T2.out.t5
      obtain ⟨z0, z1⟩ := txt_cells YB.out
      go_upto_region 12 with (go_at_call 73; refine (HTU.out _ A8 c8 T2.out.tS TY.out).mono ?_; rintro ee w8 ⟨A4, c4, B4, d4, rfl, rA, rB, bb⟩; dsimp only at rA rB ⊢; have T3 := Lib.hid ((T2.out.step bb).step ((Below.refl _ _).alloc (Nat.le_refl _) (.cells #[.int .i64 ea, .string ⟨ES.toArray⟩, .slice A4 el.length c4, .string ⟨EX.toArray⟩, .slice B4 em.length d4] 41))); have RA := Lib.hid (row_step rA ((Below.refl _ _).alloc (Nat.le_refl _) (.cells #[.int .i64 ea, .string ⟨ES.toArray⟩, .slice A4 el.length c4, .string ⟨EX.toArray⟩, .slice B4 em.length d4] 41))); have RB := Lib.hid (row_step rB ((Below.refl _ _).alloc (Nat.le_refl _) (.cells #[.int .i64 ea, .string ⟨ES.toArray⟩, .slice A4 el.length c4, .string ⟨EX.toArray⟩, .slice B4 em.length d4] 41))); have V3 := Lib.hid (Blk.new w8 41 #[.int .i64 ea, .string ⟨ES.toArray⟩, .slice A4 el.length c4, .string ⟨EX.toArray⟩, .slice B4 em.length d4]); have hg8 : Hid (w.heap.size + 1 + 1 < w8.heap.size) := Nat.lt_of_lt_of_le T2.out.res.lt bb.size; clear rA rB bb)
      clear y0 y1 z0 z1 HTU TY YB T2
      generalize hgg : w8.heap.size = g at *
      generalize w8.alloc (.cells #[.int .i64 ea, .string ⟨ES.toArray⟩, .slice A4 el.length c4, .string ⟨EX.toArray⟩, .slice B4 em.length d4] 41) = w9 at *
      clear hgg
      by_cases hrn : rn = 0
      · subst hrn
        have HV4 := Lib.hid ((if_pos rfl).symm.trans HV.out)
        clear HV
        have g17 : (((0 : Nat) : Int) != 0) = false := rfl
        go_upto_region 14 with fail
        have hb0 : Below w9.heap.size w9 w9 := Below.refl _ _
        have hbz : Below w9.heap.size w9 w9.drew := below_drewN hb0 1
        have KSB : Hid (∀ w', Below w9.heap.size w9 w' → Blk w' g 41 #[.int .i64 ea, .string ⟨ES.toArray⟩, .slice A4 el.length c4, .string ⟨EX.toArray⟩, .slice B4 em.length d4]) := fun w' hb => V3.out.below hb V3.out.lt
        have KS : Hid (∀ w', Below w9.heap.size w9 w' → (w'.cell? ⟨g, 0, none⟩ = some (.int .i64 ea) ∧ w'.cell? ⟨g, 1, none⟩ = some (.string ⟨ES.toArray⟩) ∧ w'.cell? ⟨g, 2, none⟩ = some (.slice A4 el.length c4) ∧ w'.cell? ⟨g, 3, none⟩ = some (.string ⟨EX.toArray⟩) ∧ w'.cell? ⟨g, 4, none⟩ = some (.slice B4 em.length d4))) := fun w' hb => ed_cells (V3.out.below hb V3.out.lt)
        refine wp_region_held_drew (S := fun w' => (w'.cell? ⟨g, 0, none⟩ = some (.int .i64 ea) ∧ w'.cell? ⟨g, 1, none⟩ = some (.string ⟨ES.toArray⟩) ∧ w'.cell? ⟨g, 2, none⟩ = some (.slice A4 el.length c4) ∧ w'.cell? ⟨g, 3, none⟩ = some (.string ⟨EX.toArray⟩) ∧ w'.cell? ⟨g, 4, none⟩ = some (.slice B4 em.length d4))) (by kernel_rfl) (KS.out _ hbz) (fun hHeld => ?_)
        refine wpAnyH_take (i := 0) (v := ?_) rfl (by kernel_rfl) (by kernel_rfl) (by kernel_rfl) (fun _ _ _ h => h) (Or.inl ⟨by rfl, ?_⟩) (by assumption) ?_
        rotate_left
        · (intro w hSw; obtain ⟨q0, q1, q2, q3, q4⟩ := hSw; go_simp; (try with_reducible rfl))
        (try simp only [List.getElem_toArray, List.getElem_cons_zero, Act.put, List.setIfInBounds_toArray, List.set_cons_zero, List.set_cons_succ])
        refine wpAnyH_take (i := 1) (v := ?_) rfl (by kernel_rfl) (by kernel_rfl) (by kernel_rfl) (fun _ _ _ h => h) (Or.inl ⟨by rfl, ?_⟩) (by assumption) ?_
        rotate_left
        · (intro w hSw; obtain ⟨q0, q1, q2, q3, q4⟩ := hSw; go_simp; (try with_reducible rfl))
        (try simp only [List.getElem_toArray, List.getElem_cons_zero, List.getElem_cons_succ, Act.put, List.setIfInBounds_toArray, List.set_cons_zero, List.set_cons_succ])
        refine wpAnyH_take (i := 2) (v := ?_) rfl (by kernel_rfl) (by kernel_rfl) (by kernel_rfl) (fun _ _ _ h => h) (Or.inl ⟨by rfl, ?_⟩) (by assumption) ?_
        rotate_left
        · (intro w hSw; obtain ⟨q0, q1, q2, q3, q4⟩ := hSw; go_simp; (try with_reducible rfl))
        (try simp only [List.getElem_toArray, List.getElem_cons_zero, List.getElem_cons_succ, Act.put, List.setIfInBounds_toArray, List.set_cons_zero, List.set_cons_succ])
        refine wpAnyH_ready (rs := [3]) (by kernel_rfl) (by simp) ?_
        refine AllReadyH.cons rfl (fun K hK => ?_) AllReadyH.nil
        go_simp
        refine (HFI.out _).mono ?_
        rintro ee wa ⟨rfl, hby⟩
        have hbx : Below w9.heap.size w9 wa := hbz.trans (hby.mono hbz.size)
        (try go_wp2_with fail)
        refine hK.out _ _ (KS.out _ hbx) (fun hHeld => ?_)
        clear hK K
        (try simp only [List.getElem_toArray, List.getElem_cons_zero, List.getElem_cons_succ, Act.put, List.setIfInBounds_toArray, List.set_cons_zero, List.set_cons_succ])
        refine wpAnyH_take (i := 4) (v := ?_) rfl (by kernel_rfl) (by kernel_rfl) (by kernel_rfl) (fun _ _ _ h => h) (Or.inl ⟨by rfl, ?_⟩) (by assumption) ?_
        rotate_left
        · (intro w hSw; obtain ⟨q0, q1, q2, q3, q4⟩ := hSw; go_simp; (try with_reducible rfl))
        (try simp only [List.getElem_toArray, List.getElem_cons_zero, List.getElem_cons_succ, Act.put, List.setIfInBounds_toArray, List.set_cons_zero, List.set_cons_succ])
        have T9 := Lib.hid (T3.out.step hbx)
        have RA9 := Lib.hid (row_step RA.out hbx)
        have RB9 := Lib.hid (row_step RB.out hbx)
        obtain ⟨⟨r0, r1, r2, r3, r4, r5, r6, r7, r8, r9⟩, t0, t1, t2, t3, t4, t5, t6, t7, t8, t9⟩ := out_cells T9.out.res
        refine wpAnyH_ready (rs := [5]) (by kernel_rfl) (by simp) ?_
        refine AllReadyH.cons rfl (fun K hK => ?_) AllReadyH.nil
        go_simp
        refine hK.out _ _ (show _ from ed_cells (setMany_far (KSB.out _ hbx) (by have := hg8.out; omega) [(0, .int .i64 ea), (1, .string ⟨ES.toArray⟩), (2, .slice A4 el.length c4), (3, .string ⟨EX.toArray⟩), (4, .slice B4 em.length d4), (5, .string ⟨#[]⟩), (6, .slice none 0 0), (7, .bool false), (8, .bool false), (9, .int .i64 ((firstL W (ln : Nat) : Nat)))])) (fun hHeld => ?_)
        clear hK K
        (try simp only [List.getElem_toArray, List.getElem_cons_zero, List.getElem_cons_succ, Act.put, List.setIfInBounds_toArray, List.set_cons_zero, List.set_cons_succ])
        refine wpAnyH_take (i := 6) (v := ?_) rfl (by kernel_rfl) (by kernel_rfl) (by kernel_rfl) (fun _ _ _ h => h) (Or.inl ⟨by rfl, ?_⟩) (by assumption) ?_
        rotate_left
        · (intro w hSw; obtain ⟨q0, q1, q2, q3, q4⟩ := hSw; go_simp; (try with_reducible rfl))
        (try simp only [List.getElem_toArray, List.getElem_cons_zero, List.getElem_cons_succ, Act.put, List.setIfInBounds_toArray, List.set_cons_zero, List.set_cons_succ])
        refine wpAnyH_done (by kernel_rfl) ?_ _
        go_wp2_with fail
        have EE := out_end (A := A4) (B := B4) (C := none) (l := el) (m := em) (q := []) T9.out.res noLab_out T9.out.bel (by omega) RA9.out RB9.out (.inl rfl) [(0, .int .i64 ea), (1, .string ⟨ES.toArray⟩), (2, .slice A4 el.length c4), (3, .string ⟨EX.toArray⟩), (4, .slice B4 em.length d4), (5, .string ⟨#[]⟩), (6, .slice none 0 0), (7, .bool false), (8, .bool false), (9, .int .i64 ((firstL W (ln : Nat) : Nat)))]
        have EB9 : Blk (setMany wa (w.heap.size + 1 + 1) [(0, .int .i64 ea), (1, .string ⟨ES.toArray⟩), (2, .slice A4 el.length c4), (3, .string ⟨EX.toArray⟩), (4, .slice B4 em.length d4), (5, .string ⟨#[]⟩), (6, .slice none 0 0), (7, .bool false), (8, .bool false), (9, .int .i64 ((firstL W (ln : Nat) : Nat)))]) (w.heap.size + 1 + 1) 47 #[.int .i64 ea, .string ⟨ES.toArray⟩, .slice A4 el.length c4, .string ⟨EX.toArray⟩, .slice B4 em.length d4, .string ⟨#[]⟩, .slice none 0 0, .bool false, .bool false, .int .i64 ((firstL W (ln : Nat) : Nat))] := out_ten T9.out.res _ _ _ _ _ _ _ _ _ _
        change bodyPost _ _ _ _ _ (setMany wa (w.heap.size + 1 + 1) [(0, .int .i64 ea), (1, .string ⟨ES.toArray⟩), (2, .slice A4 el.length c4), (3, .string ⟨EX.toArray⟩), (4, .slice B4 em.length d4), (5, .string ⟨#[]⟩), (6, .slice none 0 0), (7, .bool false), (8, .bool false), (9, .int .i64 ((firstL W (ln : Nat) : Nat)))])
        generalize setMany wa (w.heap.size + 1 + 1) [(0, .int .i64 ea), (1, .string ⟨ES.toArray⟩), (2, .slice A4 el.length c4), (3, .string ⟨EX.toArray⟩), (4, .slice B4 em.length d4), (5, .string ⟨#[]⟩), (6, .slice none 0 0), (7, .bool false), (8, .bool false), (9, .int .i64 ((firstL W (ln : Nat) : Nat)))] = wz at *
        refine ret_out rfl _ _ (w.heap.size + 1 + 1) #[.int .i64 ea, .string ⟨ES.toArray⟩, .slice A4 el.length c4, .string ⟨EX.toArray⟩, .slice B4 em.length d4, .string ⟨#[]⟩, .slice none 0 0, .bool false, .bool false, .int .i64 ((firstL W (ln : Nat) : Nat))] rfl rfl EB9 rfl ?_
        rw [← HV4.out]
        exact ⟨A4, c4, B4, d4, none, 0, rfl, EE.1, EE.2.1, EE.2.2.1, EE.2.2.2⟩
      · have HV4 := Lib.hid ((if_neg hrn).symm.trans HV.out)
        clear HV
        have g17 : ((rn : Int) != 0) = true := by rw [bne_iff_ne]; omega
        have g18 : ((rn : Int) == 0) = false := by rw [beq_eq_false_iff_ne]; omega
        obtain ⟨⟨r0, r1, r2, r3, r4, r5, r6, r7, r8, r9⟩, t0, t1, t2, t3, t4, t5, t6, t7, t8, t9⟩ := out_cells T3.out.res
        go_wp2_with fail
        have EE := out_end (A := none) (B := none) (C := none) (l := []) (m := []) (q := []) T3.out.res noLab_out T3.out.bel (by omega) (.inl rfl) (.inl rfl) (.inl rfl) [(0, .int .i64 0), (1, .string ⟨#[]⟩), (2, .slice none 0 0), (3, .string ⟨#[]⟩), (4, .slice none 0 0), (5, .string ⟨#[]⟩), (6, .slice none 0 0), (7, .bool false), (8, .bool false), (9, .int .i64 0)]
        have EB : Blk (setMany w9 (w.heap.size + 1 + 1) [(0, .int .i64 0), (1, .string ⟨#[]⟩), (2, .slice none 0 0), (3, .string ⟨#[]⟩), (4, .slice none 0 0), (5, .string ⟨#[]⟩), (6, .slice none 0 0), (7, .bool false), (8, .bool false), (9, .int .i64 0)]) (w.heap.size + 1 + 1) 47 #[.int .i64 0, .string ⟨#[]⟩, .slice none 0 0, .string ⟨#[]⟩, .slice none 0 0, .string ⟨#[]⟩, .slice none 0 0, .bool false, .bool false, .int .i64 0] := out_ten T3.out.res _ _ _ _ _ _ _ _ _ _
        change bodyPost _ _ _ _ _ (setMany w9 (w.heap.size + 1 + 1) [(0, .int .i64 0), (1, .string ⟨#[]⟩), (2, .slice none 0 0), (3, .string ⟨#[]⟩), (4, .slice none 0 0), (5, .string ⟨#[]⟩), (6, .slice none 0 0), (7, .bool false), (8, .bool false), (9, .int .i64 0)])
        generalize setMany w9 (w.heap.size + 1 + 1) [(0, .int .i64 0), (1, .string ⟨#[]⟩), (2, .slice none 0 0), (3, .string ⟨#[]⟩), (4, .slice none 0 0), (5, .string ⟨#[]⟩), (6, .slice none 0 0), (7, .bool false), (8, .bool false), (9, .int .i64 0)] = wz at *
        refine ret_out rfl _ _ (w.heap.size + 1 + 1) #[.int .i64 0, .string ⟨#[]⟩, .slice none 0 0, .string ⟨#[]⟩, .slice none 0 0, .string ⟨#[]⟩, .slice none 0 0, .bool false, .bool false, .int .i64 0] rfl rfl EB rfl ?_
        rw [← HV4.out]
        exact ⟨none, 0, none, 0, none, 0, rfl, EE.1, EE.2.1, EE.2.2.1, EE.2.2.2⟩
end Go.Proofs.YtgpmfkedcoiopaaGreatDoor

/-
  The document's Put: layer 14.
-/
namespace Go.Proofs.YtgpmfkedcoiopaaGreatDoor
open Go.RowKit
set_option maxRecDepth 100000

/-- what is kept where a text, an entry and an answer lie in boxes -/
structure PutE (w wr : World) (A : Option Addr) (c : Nat) (S : List UInt8) (l : List RunP) (A2 : Option Addr) (c2 : Nat) (X : List UInt8) (m : List RunP) (b : Bool) : Prop where
  t5 : Blk wr w.heap.size 32 #[.string ⟨S.toArray⟩, .slice A l.length c]
  e5 : Blk wr (w.heap.size + 1) 36 #[.string ⟨X.toArray⟩, .slice A2 m.length c2, .bool b]
  res : Blk wr (w.heap.size + 1 + 1) 47 #[.int .i64 0, .string ⟨#[]⟩, .slice none 0 0, .string ⟨#[]⟩, .slice none 0 0, .string ⟨#[]⟩, .slice none 0 0, .bool false, .bool false, .int .i64 0]
  bel : Below w.heap.size w wr
  tS : Txu wr A S l
  tX : Txu wr A2 X m
theorem PutE.step {w wr w' : World} {A A2 : Option Addr} {c c2 : Nat} {S X : List UInt8} {l m : List RunP} {b : Bool} (h : PutE w wr A c S l A2 c2 X m b) (hb : Below wr.heap.size wr w') : PutE w w' A c S l A2 c2 X m b :=
  ⟨h.t5.below hb h.t5.lt, h.e5.below hb h.e5.lt, h.res.below hb h.res.lt, h.bel.trans (hb.mono h.bel.size), grow_txu h.tS _ hb, grow_txu h.tX _ hb⟩
theorem ent_cells {w : World} {g T : Nat} {u v x : Value} (h : Blk w g T #[u, v, x]) : w.cell? ⟨g, 0, none⟩ = some u ∧ w.cell? ⟨g, 1, none⟩ = some v ∧ w.cell? ⟨g, 2, none⟩ = some x := ⟨h.cell 0, h.cell 1, h.cell 2⟩
set_option maxHeartbeats 16000000 in
theorem refPPut_any (A A2 : Option Addr) (c c2 : Nat) (S X : List UInt8) (l m : List RunP) (y : Nat) (hy : y < 18446744073709551616) (p : Int) (b ah : Bool) (n : Int) (w : World) (h : Txu w A S l) (hX : Txu w A2 X m) :
    Calls Tryz.prog 23 #[.agg #[.string ⟨S.toArray⟩, .slice A l.length c], .int .u64 (y : Nat), .int .i64 p, .agg #[.string ⟨X.toArray⟩, .slice A2 m.length c2, .bool b], .bool ah, .int .i64 n] w (GivesO w (putM S l y p X m b ah n)) := by
  obtain ⟨v, hv⟩ : ∃ v, putM S l y p X m b ah n = v := ⟨_, rfl⟩
  rw [hv]
  unfold putM at hv
  have hvl := view_len S l y
  have HVW := Lib.hid (fun wx hx => refTView_any A c wx.heap.size S l y hy wx (Nat.le_refl _) hx)
  obtain ⟨vw, hvw⟩ : ∃ vw, viewOf S l y = vw := ⟨_, rfl⟩
  rw [hvw] at hv hvl HVW
  obtain ⟨V, vn⟩ := vw
  dsimp only at hv hvl HVW
  have HV := Lib.hid hv
  clear hv hvw
  have BX := Lib.hid (boxesE3 w 32 36 47 #[.string ⟨S.toArray⟩, .slice A l.length c] #[.string ⟨X.toArray⟩, .slice A2 m.length c2, .bool b] #[.int .i64 0, .string ⟨#[]⟩, .slice none 0 0, .string ⟨#[]⟩, .slice none 0 0, .string ⟨#[]⟩, .slice none 0 0, .bool false, .bool false, .int .i64 0])
  have K := Lib.hid (BX.out.and (((grow_txu h).and (grow_txu hX)).step BX.out.now.2.2.2))
  clear h hX BX
  go_enter Tryz.func23, Tryz.ntmps23
  go_upto_region 1 with fail
  generalize ((w.alloc (.cells #[.string ⟨S.toArray⟩, .slice A l.length c] 32)).alloc (.cells #[.string ⟨X.toArray⟩, .slice A2 m.length c2, .bool b] 36)).alloc (.cells #[.int .i64 0, .string ⟨#[]⟩, .slice none 0 0, .string ⟨#[]⟩, .slice none 0 0, .string ⟨#[]⟩, .slice none 0 0, .bool false, .bool false, .int .i64 0] 47) = wx at *
  have T : Hid (PutE w wx A c S l A2 c2 X m b) := by
    have k := K.out.now
    exact ⟨k.1.1, k.1.2.1, k.1.2.2.1, k.1.2.2.2, k.2.1, k.2.2⟩
  clear K
  obtain ⟨y0, y1⟩ := txt_cells T.out.t5
  go_upto_region 2 with (go_at_call 31; refine (HVW.out _ T.out.tS).mono ?_; rintro ee w2 ⟨rfl, bb⟩; replace T := Lib.hid (T.out.step bb); clear bb y0 y1)
  by_cases hn : vn = 0
  · subst hn
    have g0 : (((0 : Nat) : Int) != 0) = false := rfl
    obtain ⟨e0, e1, e2⟩ := ent_cells T.out.e5
    have HGD := Lib.hid (fun wx (hx : Txu wx A2 X m) => refTGood_any A2 c2 wx.heap.size X m wx (Nat.le_refl _) hx)
    cases hgd : goodT X m with
    | false =>
      rw [hgd] at HGD
      have HV2 := Lib.hid ((if_pos (.inr hgd)).symm.trans HV.out)
      clear HV hgd
      go_upto_region 3 with (go_at_call 35; refine (HGD.out _ T.out.tX).mono ?_; rintro ee w3 ⟨rfl, bb⟩; replace T := Lib.hid (T.out.step bb); clear bb e0 e1 e2)
      obtain ⟨⟨r0, r1, r2, r3, r4, r5, r6, r7, r8, r9⟩, t0, t1, t2, t3, t4, t5, t6, t7, t8, t9⟩ := out_cells T.out.res
      go_wp2_with fail
      have EE := out_end (A := none) (B := none) (C := none) (l := []) (m := []) (q := []) T.out.res noLab_out T.out.bel (by omega) (.inl rfl) (.inl rfl) (.inl rfl) [(0, .int .i64 0), (1, .string ⟨#[]⟩), (2, .slice none 0 0), (3, .string ⟨#[]⟩), (4, .slice none 0 0), (5, .string ⟨#[]⟩), (6, .slice none 0 0), (7, .bool false), (8, .bool false), (9, .int .i64 0)]
      have EB : Blk (setMany w3 (w.heap.size + 1 + 1) [(0, .int .i64 0), (1, .string ⟨#[]⟩), (2, .slice none 0 0), (3, .string ⟨#[]⟩), (4, .slice none 0 0), (5, .string ⟨#[]⟩), (6, .slice none 0 0), (7, .bool false), (8, .bool false), (9, .int .i64 0)]) (w.heap.size + 1 + 1) 47 #[.int .i64 0, .string ⟨#[]⟩, .slice none 0 0, .string ⟨#[]⟩, .slice none 0 0, .string ⟨#[]⟩, .slice none 0 0, .bool false, .bool false, .int .i64 0] := out_ten T.out.res _ _ _ _ _ _ _ _ _ _
      change bodyPost _ _ _ _ _ (setMany w3 (w.heap.size + 1 + 1) [(0, .int .i64 0), (1, .string ⟨#[]⟩), (2, .slice none 0 0), (3, .string ⟨#[]⟩), (4, .slice none 0 0), (5, .string ⟨#[]⟩), (6, .slice none 0 0), (7, .bool false), (8, .bool false), (9, .int .i64 0)])
      generalize setMany w3 (w.heap.size + 1 + 1) [(0, .int .i64 0), (1, .string ⟨#[]⟩), (2, .slice none 0 0), (3, .string ⟨#[]⟩), (4, .slice none 0 0), (5, .string ⟨#[]⟩), (6, .slice none 0 0), (7, .bool false), (8, .bool false), (9, .int .i64 0)] = wz at *
      refine ret_out rfl _ _ (w.heap.size + 1 + 1) #[.int .i64 0, .string ⟨#[]⟩, .slice none 0 0, .string ⟨#[]⟩, .slice none 0 0, .string ⟨#[]⟩, .slice none 0 0, .bool false, .bool false, .int .i64 0] rfl rfl EB rfl ?_
      rw [← HV2.out]
      exact ⟨none, 0, none, 0, none, 0, rfl, EE.1, EE.2.1, EE.2.2.1, EE.2.2.2⟩
    | true =>
      rw [hgd] at HGD
      have HV2 := Lib.hid ((if_neg (show ¬ ((0 : Nat) ≠ 0 ∨ goodT X m = false) from fun e => by rcases e with e | e; exact e rfl; rw [hgd] at e; cases e)).symm.trans HV.out)
      clear HV hgd
      have HAL := Lib.hid (fun wx => refPAlign V (by omega) p wx)
      have hal := alignM_le V p
      have HNX := Lib.hid (fun wx => refMNext V (by omega) (alignM V p : Nat) wx)
      have hmb := many_pos n
      have hmf := manyP_if n
      have HTO : Hid (putTo V (alignM V p) ah = if ah = false ∧ alignM V p < V.length ∧ V[alignM V p]? ≠ some 10 then nextM V (alignM V p : Nat) else alignM V p) := rfl
      generalize alignM V p = a at *
      go_upto_region 6 with (first
        | (go_at_call 35; refine (HGD.out _ T.out.tX).mono ?_; rintro ee w3 ⟨rfl, bb⟩; replace T := Lib.hid (T.out.step bb); clear bb e0 e1 e2)
        | (go_at_call 32; refine (HAL.out _).mono ?_; rintro ee w4 ⟨rfl, bb⟩; replace T := Lib.hid (T.out.step bb); clear bb))
      clear hmf
      generalize (if n < 1 then (1 : Int) else n) = cm at *
      generalize manyM n = k at *
      obtain ⟨e0, e1, e2⟩ := ent_cells T.out.e5
      obtain ⟨y0, y1⟩ := txt_cells T.out.t5
      clear HGD HAL HVW
      cases b with
      | true =>
        replace HV2 := Lib.hid ((if_pos rfl).symm.trans HV2.out)
        have HPL : Hid (∀ wx, Txu wx A S l → Txu wx A2 X m → Calls Tryz.prog 78 #[.agg #[.string ⟨S.toArray⟩, .slice A l.length c], .string ⟨V.toArray⟩, .int .u64 (y : Nat), .int .i64 (a : Nat), .agg #[.string ⟨X.toArray⟩, .slice A2 m.length c2], .bool ah, .int .i64 (k : Nat)] wx (GivesO wx v)) := fun wx h1 h2 => by
          have := refPPutLines_any A A2 c c2 S X l m V hvl y hy a ah k hmb wx h1 h2
          rw [HV2.out] at this
          exact this
        obtain ⟨⟨⟨ea, ES, el, EX, em⟩, RS, rl, bl, bw, ra⟩, rn⟩ := v
        go_wp2_with (go_at_call 78; refine (HPL.out _ T.out.tS T.out.tX).mono ?_; rintro ee w5 ⟨A4, c4, B4, d4, C4, g4, rfl, rA, rB, rC, bb⟩; dsimp only at rA rB rC ⊢; have RA := Lib.hid rA; have RB := Lib.hid rB; have RC := Lib.hid rC; have T5 := Lib.hid (T.out.step bb); clear rA rB rC bb y0 y1 e0 e1 e2; obtain ⟨⟨r0, r1, r2, r3, r4, r5, r6, r7, r8, r9⟩, t0, t1, t2, t3, t4, t5, t6, t7, t8, t9⟩ := out_cells T5.out.res)
        have EE := out_end (A := A4) (B := B4) (C := C4) (l := el) (m := em) (q := rl) T5.out.res noLab_out T5.out.bel (by omega) RA.out RB.out RC.out [(0, .int .i64 ea), (1, .string ⟨ES.toArray⟩), (2, .slice A4 el.length c4), (3, .string ⟨EX.toArray⟩), (4, .slice B4 em.length d4), (5, .string ⟨RS.toArray⟩), (6, .slice C4 rl.length g4), (7, .bool bl), (8, .bool bw), (9, .int .i64 ra)]
        have EB : Blk (setMany w5 (w.heap.size + 1 + 1) [(0, .int .i64 ea), (1, .string ⟨ES.toArray⟩), (2, .slice A4 el.length c4), (3, .string ⟨EX.toArray⟩), (4, .slice B4 em.length d4), (5, .string ⟨RS.toArray⟩), (6, .slice C4 rl.length g4), (7, .bool bl), (8, .bool bw), (9, .int .i64 ra)]) (w.heap.size + 1 + 1) 47 #[.int .i64 ea, .string ⟨ES.toArray⟩, .slice A4 el.length c4, .string ⟨EX.toArray⟩, .slice B4 em.length d4, .string ⟨RS.toArray⟩, .slice C4 rl.length g4, .bool bl, .bool bw, .int .i64 ra] := out_ten T5.out.res _ _ _ _ _ _ _ _ _ _
        change bodyPost _ _ _ _ _ (setMany w5 (w.heap.size + 1 + 1) [(0, .int .i64 ea), (1, .string ⟨ES.toArray⟩), (2, .slice A4 el.length c4), (3, .string ⟨EX.toArray⟩), (4, .slice B4 em.length d4), (5, .string ⟨RS.toArray⟩), (6, .slice C4 rl.length g4), (7, .bool bl), (8, .bool bw), (9, .int .i64 ra)])
        generalize setMany w5 (w.heap.size + 1 + 1) [(0, .int .i64 ea), (1, .string ⟨ES.toArray⟩), (2, .slice A4 el.length c4), (3, .string ⟨EX.toArray⟩), (4, .slice B4 em.length d4), (5, .string ⟨RS.toArray⟩), (6, .slice C4 rl.length g4), (7, .bool bl), (8, .bool bw), (9, .int .i64 ra)] = wz at *
        refine ret_out rfl _ _ (w.heap.size + 1 + 1) #[.int .i64 ea, .string ⟨ES.toArray⟩, .slice A4 el.length c4, .string ⟨EX.toArray⟩, .slice B4 em.length d4, .string ⟨RS.toArray⟩, .slice C4 rl.length g4, .bool bl, .bool bw, .int .i64 ra] rfl rfl EB rfl ?_
        exact ⟨A4, c4, B4, d4, C4, g4, rfl, EE.1, EE.2.1, EE.2.2.1, EE.2.2.2⟩
      | false =>
        replace HV2 := Lib.hid ((if_neg (by decide)).symm.trans HV2.out)
        have ha0 : (0 : Int) ≤ (a : Int) := by omega
        go_upto_region 9 with fail
        clear e0 e1 e2 y0 y1
        go_cut [72] (fun s72 wq => s72 = .bool (decide (ah = false ∧ a < V.length ∧ V[a]? ≠ some 10)) ∧ Hid (PutE w wq A c S l A2 c2 X m false))
        case first =>
          cases ah with
          | true =>
            go_wp2_with fail
            go_meet
            exact ⟨by rw [decide_eq_false (by simp)], T⟩
          | false =>
            by_cases hlt : a < V.length
            · have hlt1 : (a : Int) < (V.length : Int) := by omega
              have hg := byte_at V a hlt
              by_cases h10 : V[a] = 10
              · have hnl : ((V[a].toNat : Int) != 10) = false := by rw [h10]; rfl
                have HD : Hid (decide (false = false ∧ a < V.length ∧ V[a]? ≠ some 10) = false) := by rw [Hid, List.getElem?_eq_getElem hlt, h10]; simp
                generalize V[a] = bt at *
                go_wp2_with fail
                go_meet
                exact ⟨by rw [HD.out], T⟩
              · have hnl : ((V[a].toNat : Int) != 10) = true := by
                  rw [bne_iff_ne]
                  intro e
                  have e2 : V[a].toNat = (10 : UInt8).toNat := by
                    have : (10 : UInt8).toNat = 10 := rfl
                    omega
                  exact h10 (UInt8.toNat_inj.1 e2)
                have HD : Hid (decide (false = false ∧ a < V.length ∧ V[a]? ≠ some 10) = true) := by rw [Hid, List.getElem?_eq_getElem hlt]; simp [hlt, h10]
                generalize V[a] = bt at *
                go_wp2_with fail
                go_meet
                exact ⟨by rw [HD.out], T⟩
            · have hlt1 : ¬ (a : Int) < (V.length : Int) := by omega
              have HD : Hid (decide (false = false ∧ a < V.length ∧ V[a]? ≠ some 10) = false) := by rw [Hid]; simp [hlt]
              go_wp2_with fail
              go_meet
              exact ⟨by rw [HD.out], T⟩
        case rest =>
          obtain ⟨rfl, T2⟩ := hcut
          clear T
          have HTO2 : Hid (putTo V a ah = if decide (ah = false ∧ a < V.length ∧ V[a]? ≠ some 10) = true then nextM V (a : Nat) else a) := by
            rw [Hid, HTO.out]
            by_cases e : ah = false ∧ a < V.length ∧ V[a]? ≠ some 10
            · rw [if_pos e, if_pos (decide_eq_true e)]
            · rw [if_neg e, if_neg (by rw [decide_eq_false e]; decide)]
          clear HTO
          generalize decide (ah = false ∧ a < V.length ∧ V[a]? ≠ some 10) = cd at *
          go_upto_if 72 with fail
          go_cut [18] (fun s18 wq => s18 = .int .i64 (putTo V a ah : Nat) ∧ Hid (PutE w wq A c S l A2 c2 X m false))
          case first =>
            cases cd with
            | true =>
              go_wp2_with (go_at_call 44; refine (HNX.out _).mono ?_; rintro ee w5 ⟨rfl, bb⟩; replace T2 := Lib.hid (T2.out.step bb); clear bb)
              go_meet
              exact ⟨by rw [HTO2.out]; rfl, T2⟩
            | false =>
              go_wp2_with fail
              go_meet
              exact ⟨by rw [HTO2.out]; rfl, T2⟩
          case rest =>
            obtain ⟨rfl, T3⟩ := hcut
            clear T2 HNX
            have HTI : Hid (∀ wx, Txu wx A2 X m → Calls Tryz.prog 79 #[.slice (some ⟨wx.heap.size, 0, none⟩) 1 1, .int .i64 (k : Nat)] (wx.alloc (.cells #[.string ⟨X.toArray⟩, .slice A2 m.length c2] 32)) (GivesTB (wx.alloc (.cells #[.string ⟨X.toArray⟩, .slice A2 m.length c2] 32)) (timesM [(X, m)] k))) := fun wx hx => by
              have L := LstK.one (c := c2) hx
              exact refPTimes_any (some ⟨wx.heap.size, 0, none⟩) 1 [⟨X, A2, c2, m⟩] (by simp) k (by omega) _ L.tx L.row
            have HTF := Lib.hid (texts_fit (ts := [⟨X, A2, c2, m⟩]) (LstK.one (c := c2) T3.out.tX).tx)
            have HFT := Lib.hid (fun Y q => times_fit (L := [(X, m)]) (n := k) (Y := Y) (q := q) HTF.out)
            unfold layM at HV2
            unfold GivesTB at HTI
            generalize timesM [(X, m)] k = r at *
            have HY : Hid ((r.getD ([], [])).1.length ≤ 4096 ∧ Fits (r.getD ([], [])).2 ∧ (r.getD ([], [])).2.length ≤ maxLen) := by
              rcases r with _ | ⟨Y, q⟩
              · exact ⟨Nat.zero_le _, fun r hr => by simp at hr, Nat.zero_le _⟩
              · exact HFT.out Y q rfl
            clear HFT HTF
            generalize r.getD ([], []) = Yp at *
            generalize r.isSome = ft at *
            obtain ⟨Y, yq⟩ := Yp
            dsimp only at HY HV2
            have hto : putTo V a ah ≤ 4096 := by
              rw [HTO2.out]
              have h1 := width_le_take (chars V) (whichM (chars V) (a : Nat) + 1)
              rw [width_chars] at h1
              unfold nextM
              split <;> omega
            clear HTO2
            generalize putTo V a ah = tq at *
            obtain ⟨tm, htm⟩ : ∃ tm, turnedM S l y (tq : Nat) (tq : Nat) Y yq ft = tm := ⟨_, rfl⟩
            rw [htm] at HV2
            have HTM := Lib.hid htm
            have hwl := turned_view S l y (tq : Nat) (tq : Nat) Y yq ft
            rw [htm] at hwl
            clear htm
            obtain ⟨⟨⟨ea, ES, el, EX, em⟩, W⟩, rn⟩ := tm
            dsimp only at HV2 hwl
            have HTU : Hid (∀ wx A8 c8, Txu wx A S l → Txu wx A8 Y yq → Calls Tryz.prog 73 #[.agg #[.string ⟨S.toArray⟩, .slice A l.length c], .int .u64 (y : Nat), .int .i64 (tq : Nat), .int .i64 (tq : Nat), .agg #[.string ⟨Y.toArray⟩, .slice A8 yq.length c8], .bool ft] wx (GivesEV wx ((⟨ea, ES, el, EX, em⟩, W), rn))) := fun wx A8 c8 h1 h2 => by
              have := refPTurned_any A A8 c c8 S l y hy (tq : Nat) (tq : Nat) Y yq ft wx h1 h2
              rw [HTM.out] at this
              exact this
            clear HTM
            obtain ⟨e0, e1, e2⟩ := ent_cells T3.out.e5
            go_upto_region 12 with (go_at_call 79; refine (HTI.out _ T3.out.tX).mono ?_; rintro ee w6 ⟨A8, c8, rfl, own6, bb⟩; dsimp only at own6 ⊢; have hg6 : Hid (w.heap.size + 1 + 1 < w6.heap.size) := ((T3.out.step ((Below.refl _ _).alloc (Nat.le_refl _) (.cells #[.string ⟨X.toArray⟩, .slice A2 m.length c2] 32))).step bb).res.lt; replace T3 := Lib.hid (((T3.out.step ((Below.refl _ _).alloc (Nat.le_refl _) (.cells #[.string ⟨X.toArray⟩, .slice A2 m.length c2] 32))).step bb).step ((Below.refl _ _).alloc (Nat.le_refl _) (.cells #[.string ⟨Y.toArray⟩, .slice A8 yq.length c8] 32))); have YB := Lib.hid (Blk.new w6 32 #[.string ⟨Y.toArray⟩, .slice A8 yq.length c8]); have TY : Hid (Txu (w6.alloc (.cells #[.string ⟨Y.toArray⟩, .slice A8 yq.length c8] 32)) A8 Y yq) := grow_txu (wx := w6) ⟨by have := HY.out.1; unfold maxLen; omega, HY.out.2.1, HY.out.2.2, Row.of_own own6⟩ _ ((Below.refl _ _).alloc (Nat.le_refl _) _); clear own6 bb)
            clear HTI e0 e1 e2
            generalize hgg6 : w6.heap.size = g6 at *
            generalize w6.alloc (.cells #[.string ⟨Y.toArray⟩, .slice A8 yq.length c8] 32) = w7 at *
            clear hgg6
            obtain ⟨y0, y1⟩ := txt_cells T3.out.t5
            obtain ⟨z0, z1⟩ := txt_cells YB.out
            go_upto_region 13 with (go_at_call 73; refine (HTU.out _ A8 c8 T3.out.tS TY.out).mono ?_; rintro ee w8 ⟨A4, c4, B4, d4, rfl, rA, rB, bb⟩; dsimp only at rA rB ⊢; have T4 := Lib.hid ((T3.out.step bb).step ((Below.refl _ _).alloc (Nat.le_refl _) (.cells #[.int .i64 ea, .string ⟨ES.toArray⟩, .slice A4 el.length c4, .string ⟨EX.toArray⟩, .slice B4 em.length d4] 41))); have YB4 := Lib.hid ((YB.out.below bb YB.out.lt).alloc (.cells #[.int .i64 ea, .string ⟨ES.toArray⟩, .slice A4 el.length c4, .string ⟨EX.toArray⟩, .slice B4 em.length d4] 41)); have RA := Lib.hid (row_step rA ((Below.refl _ _).alloc (Nat.le_refl _) (.cells #[.int .i64 ea, .string ⟨ES.toArray⟩, .slice A4 el.length c4, .string ⟨EX.toArray⟩, .slice B4 em.length d4] 41))); have RB := Lib.hid (row_step rB ((Below.refl _ _).alloc (Nat.le_refl _) (.cells #[.int .i64 ea, .string ⟨ES.toArray⟩, .slice A4 el.length c4, .string ⟨EX.toArray⟩, .slice B4 em.length d4] 41))); have V3 := Lib.hid (Blk.new w8 41 #[.int .i64 ea, .string ⟨ES.toArray⟩, .slice A4 el.length c4, .string ⟨EX.toArray⟩, .slice B4 em.length d4]); have hg8 : Hid (w.heap.size + 1 + 1 < w8.heap.size) := Nat.lt_of_lt_of_le T3.out.res.lt bb.size; clear rA rB bb)
            clear y0 y1 z0 z1 HTU TY YB T3
            generalize hgg : w8.heap.size = g at *
            generalize w8.alloc (.cells #[.int .i64 ea, .string ⟨ES.toArray⟩, .slice A4 el.length c4, .string ⟨EX.toArray⟩, .slice B4 em.length d4] 41) = w9 at *
            clear hgg
            by_cases hrn : rn = 0
            · subst hrn
              have HV4 := Lib.hid ((if_pos rfl).symm.trans HV2.out)
              clear HV2
              have g17 : (((0 : Nat) : Int) != 0) = false := rfl
              have ye : w9.cell? ⟨g6, 0, none⟩ = some (.string ⟨Y.toArray⟩) := YB4.out.cell 0
              by_cases hY0 : Y.length = 0
              · have HV5 : Hid ((⟨⟨ea, ES, el, EX, em⟩, [], [], false, false, ((a : Nat) : Int)⟩, 0) = v) := by
                  have := HV4.out
                  rw [if_pos hY0] at this
                  exact this
                have g15 : ((Y.length : Int) == 0) = true := by rw [beq_iff_eq]; omega
                clear HV4 hY0
                obtain ⟨e0, e1, e2, e3, e4⟩ := ed_cells V3.out
                obtain ⟨⟨r0, r1, r2, r3, r4, r5, r6, r7, r8, r9⟩, t0, t1, t2, t3, t4, t5, t6, t7, t8, t9⟩ := out_cells T4.out.res
                go_wp2_with fail
                have RA9 := RA
                have RB9 := RB
                have EE := out_end (A := A4) (B := B4) (C := none) (l := el) (m := em) (q := []) T4.out.res noLab_out T4.out.bel (by omega) RA9.out RB9.out (.inl rfl) [(0, .int .i64 ea), (1, .string ⟨ES.toArray⟩), (2, .slice A4 el.length c4), (3, .string ⟨EX.toArray⟩), (4, .slice B4 em.length d4), (5, .string ⟨#[]⟩), (6, .slice none 0 0), (7, .bool false), (8, .bool false), (9, .int .i64 (a : Nat))]
                have EB9 : Blk (setMany w9 (w.heap.size + 1 + 1) [(0, .int .i64 ea), (1, .string ⟨ES.toArray⟩), (2, .slice A4 el.length c4), (3, .string ⟨EX.toArray⟩), (4, .slice B4 em.length d4), (5, .string ⟨#[]⟩), (6, .slice none 0 0), (7, .bool false), (8, .bool false), (9, .int .i64 (a : Nat))]) (w.heap.size + 1 + 1) 47 #[.int .i64 ea, .string ⟨ES.toArray⟩, .slice A4 el.length c4, .string ⟨EX.toArray⟩, .slice B4 em.length d4, .string ⟨#[]⟩, .slice none 0 0, .bool false, .bool false, .int .i64 (a : Nat)] := out_ten T4.out.res _ _ _ _ _ _ _ _ _ _
                change bodyPost _ _ _ _ _ (setMany w9 (w.heap.size + 1 + 1) [(0, .int .i64 ea), (1, .string ⟨ES.toArray⟩), (2, .slice A4 el.length c4), (3, .string ⟨EX.toArray⟩), (4, .slice B4 em.length d4), (5, .string ⟨#[]⟩), (6, .slice none 0 0), (7, .bool false), (8, .bool false), (9, .int .i64 (a : Nat))])
                generalize setMany w9 (w.heap.size + 1 + 1) [(0, .int .i64 ea), (1, .string ⟨ES.toArray⟩), (2, .slice A4 el.length c4), (3, .string ⟨EX.toArray⟩), (4, .slice B4 em.length d4), (5, .string ⟨#[]⟩), (6, .slice none 0 0), (7, .bool false), (8, .bool false), (9, .int .i64 (a : Nat))] = wz at *
                refine ret_out rfl _ _ (w.heap.size + 1 + 1) #[.int .i64 ea, .string ⟨ES.toArray⟩, .slice A4 el.length c4, .string ⟨EX.toArray⟩, .slice B4 em.length d4, .string ⟨#[]⟩, .slice none 0 0, .bool false, .bool false, .int .i64 (a : Nat)] rfl rfl EB9 rfl ?_
                rw [← HV5.out]
                exact ⟨A4, c4, B4, d4, none, 0, rfl, EE.1, EE.2.1, EE.2.2.1, EE.2.2.2⟩
              · have HV5 : Hid ((⟨⟨ea, ES, el, EX, em⟩, [], [], false, false, ((alignM W ((tq : Int) + (Y.length : Nat) - 1) : Nat) : Int)⟩, 0) = v) := by
                  have := HV4.out
                  rw [if_neg hY0] at this
                  exact this
                have g15 : ((Y.length : Int) == 0) = false := by rw [beq_eq_false_iff_ne]; omega
                have HAW := Lib.hid (fun wx => refPAlign W (by omega) ((tq : Int) + (Y.length : Nat) - 1) wx)
                have hY4 := HY.out.1
                have hw1 := wrapP_near ((tq : Int) + (Y.length : Nat)) (by omega) (by omega)
                have hw2 := wrapP_near ((tq : Int) + (Y.length : Nat) - 1) (by omega) (by omega)
                clear HV4 hY0
                go_upto_region 17 with fail
                have hb0 : Below w9.heap.size w9 w9 := Below.refl _ _
                have hbz : Below w9.heap.size w9 w9.drew := below_drewN hb0 1
                have KSB : Hid (∀ w', Below w9.heap.size w9 w' → Blk w' g 41 #[.int .i64 ea, .string ⟨ES.toArray⟩, .slice A4 el.length c4, .string ⟨EX.toArray⟩, .slice B4 em.length d4] ∧ Blk w' g6 32 #[.string ⟨Y.toArray⟩, .slice A8 yq.length c8]) := fun w' hb => ⟨V3.out.below hb V3.out.lt, YB4.out.below hb YB4.out.lt⟩
                have KS : Hid (∀ w', Below w9.heap.size w9 w' → (w'.cell? ⟨g, 0, none⟩ = some (.int .i64 ea) ∧ w'.cell? ⟨g, 1, none⟩ = some (.string ⟨ES.toArray⟩) ∧ w'.cell? ⟨g, 2, none⟩ = some (.slice A4 el.length c4) ∧ w'.cell? ⟨g, 3, none⟩ = some (.string ⟨EX.toArray⟩) ∧ w'.cell? ⟨g, 4, none⟩ = some (.slice B4 em.length d4)) ∧ w'.cell? ⟨g6, 0, none⟩ = some (.string ⟨Y.toArray⟩)) := fun w' hb => ⟨ed_cells (KSB.out w' hb).1, (KSB.out w' hb).2.cell 0⟩
                refine wp_region_held_drew (S := fun w' => (w'.cell? ⟨g, 0, none⟩ = some (.int .i64 ea) ∧ w'.cell? ⟨g, 1, none⟩ = some (.string ⟨ES.toArray⟩) ∧ w'.cell? ⟨g, 2, none⟩ = some (.slice A4 el.length c4) ∧ w'.cell? ⟨g, 3, none⟩ = some (.string ⟨EX.toArray⟩) ∧ w'.cell? ⟨g, 4, none⟩ = some (.slice B4 em.length d4)) ∧ w'.cell? ⟨g6, 0, none⟩ = some (.string ⟨Y.toArray⟩)) (by kernel_rfl) (KS.out _ hbz) (fun hHeld => ?_)
                refine wpAnyH_take (i := 0) (v := ?_) rfl (by kernel_rfl) (by kernel_rfl) (by kernel_rfl) (fun _ _ _ h => h) (Or.inl ⟨by rfl, ?_⟩) (by assumption) ?_
                rotate_left
                · (intro w hSw; obtain ⟨⟨q0, q1, q2, q3, q4⟩, q5⟩ := hSw; go_simp; (try with_reducible rfl))
                (try simp only [List.getElem_toArray, List.getElem_cons_zero, Act.put, List.setIfInBounds_toArray, List.set_cons_zero, List.set_cons_succ])
                refine wpAnyH_take (i := 1) (v := ?_) rfl (by kernel_rfl) (by kernel_rfl) (by kernel_rfl) (fun _ _ _ h => h) (Or.inl ⟨by rfl, ?_⟩) (by assumption) ?_
                rotate_left
                · (intro w hSw; obtain ⟨⟨q0, q1, q2, q3, q4⟩, q5⟩ := hSw; go_simp; (try with_reducible rfl))
                (try simp only [List.getElem_toArray, List.getElem_cons_zero, List.getElem_cons_succ, Act.put, List.setIfInBounds_toArray, List.set_cons_zero, List.set_cons_succ])
                refine wpAnyH_take (i := 2) (v := ?_) rfl (by kernel_rfl) (by kernel_rfl) (by kernel_rfl) (fun _ _ _ h => h) (Or.inl ⟨by rfl, ?_⟩) (by assumption) ?_
                rotate_left
                · (intro w hSw; obtain ⟨⟨q0, q1, q2, q3, q4⟩, q5⟩ := hSw; go_simp; (try with_reducible rfl))
                (try simp only [List.getElem_toArray, List.getElem_cons_zero, List.getElem_cons_succ, Act.put, List.setIfInBounds_toArray, List.set_cons_zero, List.set_cons_succ])
                refine wpAnyH_take (i := 3) (v := ?_) rfl (by kernel_rfl) (by kernel_rfl) (by kernel_rfl) (fun _ _ _ h => h) (Or.inl ⟨by rfl, ?_⟩) (by assumption) ?_
                rotate_left
                · (intro w hSw; obtain ⟨⟨q0, q1, q2, q3, q4⟩, q5⟩ := hSw; go_simp; (try with_reducible rfl))
                (try simp only [List.getElem_toArray, List.getElem_cons_zero, List.getElem_cons_succ, Act.put, List.setIfInBounds_toArray, List.set_cons_zero, List.set_cons_succ])
                refine wpAnyH_take (i := 4) (v := ?_) rfl (by kernel_rfl) (by kernel_rfl) (by kernel_rfl) (fun _ _ _ h => h) (Or.inl ⟨by rfl, ?_⟩) (by assumption) ?_
                rotate_left
                · (intro w hSw; obtain ⟨⟨q0, q1, q2, q3, q4⟩, q5⟩ := hSw; go_simp; (try with_reducible rfl))
                (try simp only [List.getElem_toArray, List.getElem_cons_zero, List.getElem_cons_succ, Act.put, List.setIfInBounds_toArray, List.set_cons_zero, List.set_cons_succ])
                refine wpAnyH_take (i := 5) (v := ?_) rfl (by kernel_rfl) (by kernel_rfl) (by kernel_rfl) (fun _ _ _ h => h) (Or.inl ⟨by rfl, ?_⟩) (by assumption) ?_
                rotate_left
                · (intro w hSw; obtain ⟨⟨q0, q1, q2, q3, q4⟩, q5⟩ := hSw; go_simp; (try with_reducible rfl))
                (try simp only [List.getElem_toArray, List.getElem_cons_zero, List.getElem_cons_succ, Act.put, List.setIfInBounds_toArray, List.set_cons_zero, List.set_cons_succ])
                refine wpAnyH_take (i := 6) (v := ?_) rfl (by kernel_rfl) (by kernel_rfl) (by kernel_rfl) (fun _ _ _ h => h) (Or.inl ⟨by rfl, ?_⟩) (by assumption) ?_
                rotate_left
                · (intro w hSw; obtain ⟨⟨q0, q1, q2, q3, q4⟩, q5⟩ := hSw; go_simp; (try with_reducible rfl))
                (try simp only [List.getElem_toArray, List.getElem_cons_zero, List.getElem_cons_succ, Act.put, List.setIfInBounds_toArray, List.set_cons_zero, List.set_cons_succ])
                refine wpAnyH_take (i := 7) (v := ?_) rfl (by kernel_rfl) (by kernel_rfl) (by kernel_rfl) (fun _ _ _ h => h) (Or.inl ⟨by rfl, ?_⟩) (by assumption) ?_
                rotate_left
                · (intro w hSw; obtain ⟨⟨q0, q1, q2, q3, q4⟩, q5⟩ := hSw; go_simp; (try with_reducible rfl))
                (try simp only [List.getElem_toArray, List.getElem_cons_zero, List.getElem_cons_succ, Act.put, List.setIfInBounds_toArray, List.set_cons_zero, List.set_cons_succ])
                refine wpAnyH_ready (rs := [8]) (by kernel_rfl) (by simp) ?_
                refine AllReadyH.cons rfl (fun K hK => ?_) AllReadyH.nil
                go_simp
                refine (HAW.out _).mono ?_
                rintro ee wa ⟨rfl, hby⟩
                have hbx : Below w9.heap.size w9 wa := hbz.trans (hby.mono hbz.size)
                (try go_wp2_with fail)
                refine hK.out _ _ (KS.out _ hbx) (fun hHeld => ?_)
                clear hK K
                (try simp only [List.getElem_toArray, List.getElem_cons_zero, List.getElem_cons_succ, Act.put, List.setIfInBounds_toArray, List.set_cons_zero, List.set_cons_succ])
                refine wpAnyH_take (i := 9) (v := ?_) rfl (by kernel_rfl) (by kernel_rfl) (by kernel_rfl) (fun _ _ _ h => h) (Or.inl ⟨by rfl, ?_⟩) (by assumption) ?_
                rotate_left
                · (intro w hSw; obtain ⟨⟨q0, q1, q2, q3, q4⟩, q5⟩ := hSw; go_simp; (try with_reducible rfl))
                (try simp only [List.getElem_toArray, List.getElem_cons_zero, List.getElem_cons_succ, Act.put, List.setIfInBounds_toArray, List.set_cons_zero, List.set_cons_succ])
                have T9 := Lib.hid (T4.out.step hbx)
                have RA9 := Lib.hid (row_step RA.out hbx)
                have RB9 := Lib.hid (row_step RB.out hbx)
                obtain ⟨⟨r0, r1, r2, r3, r4, r5, r6, r7, r8, r9⟩, t0, t1, t2, t3, t4, t5, t6, t7, t8, t9⟩ := out_cells T9.out.res
                refine wpAnyH_ready (rs := [10]) (by kernel_rfl) (by simp) ?_
                refine AllReadyH.cons rfl (fun K hK => ?_) AllReadyH.nil
                go_simp
                refine hK.out _ _ (show _ from ⟨ed_cells (setMany_far (KSB.out _ hbx).1 (by have := hg8.out; omega) [(0, .int .i64 ea), (1, .string ⟨ES.toArray⟩), (2, .slice A4 el.length c4), (3, .string ⟨EX.toArray⟩), (4, .slice B4 em.length d4), (5, .string ⟨#[]⟩), (6, .slice none 0 0), (7, .bool false), (8, .bool false), (9, .int .i64 ((alignM W ((tq : Int) + (Y.length : Nat) - 1) : Nat)))]), (setMany_far (KSB.out _ hbx).2 (by have := hg6.out; omega) [(0, .int .i64 ea), (1, .string ⟨ES.toArray⟩), (2, .slice A4 el.length c4), (3, .string ⟨EX.toArray⟩), (4, .slice B4 em.length d4), (5, .string ⟨#[]⟩), (6, .slice none 0 0), (7, .bool false), (8, .bool false), (9, .int .i64 ((alignM W ((tq : Int) + (Y.length : Nat) - 1) : Nat)))]).cell 0⟩) (fun hHeld => ?_)
                clear hK K
                (try simp only [List.getElem_toArray, List.getElem_cons_zero, List.getElem_cons_succ, Act.put, List.setIfInBounds_toArray, List.set_cons_zero, List.set_cons_succ])
                refine wpAnyH_take (i := 11) (v := ?_) rfl (by kernel_rfl) (by kernel_rfl) (by kernel_rfl) (fun _ _ _ h => h) (Or.inl ⟨by rfl, ?_⟩) (by assumption) ?_
                rotate_left
                · (intro w hSw; obtain ⟨⟨q0, q1, q2, q3, q4⟩, q5⟩ := hSw; go_simp; (try with_reducible rfl))
                (try simp only [List.getElem_toArray, List.getElem_cons_zero, List.getElem_cons_succ, Act.put, List.setIfInBounds_toArray, List.set_cons_zero, List.set_cons_succ])
                refine wpAnyH_done (by kernel_rfl) ?_ _
                go_wp2_with fail
                have EE := out_end (A := A4) (B := B4) (C := none) (l := el) (m := em) (q := []) T9.out.res noLab_out T9.out.bel (by omega) RA9.out RB9.out (.inl rfl) [(0, .int .i64 ea), (1, .string ⟨ES.toArray⟩), (2, .slice A4 el.length c4), (3, .string ⟨EX.toArray⟩), (4, .slice B4 em.length d4), (5, .string ⟨#[]⟩), (6, .slice none 0 0), (7, .bool false), (8, .bool false), (9, .int .i64 ((alignM W ((tq : Int) + (Y.length : Nat) - 1) : Nat)))]
                have EB9 : Blk (setMany wa (w.heap.size + 1 + 1) [(0, .int .i64 ea), (1, .string ⟨ES.toArray⟩), (2, .slice A4 el.length c4), (3, .string ⟨EX.toArray⟩), (4, .slice B4 em.length d4), (5, .string ⟨#[]⟩), (6, .slice none 0 0), (7, .bool false), (8, .bool false), (9, .int .i64 ((alignM W ((tq : Int) + (Y.length : Nat) - 1) : Nat)))]) (w.heap.size + 1 + 1) 47 #[.int .i64 ea, .string ⟨ES.toArray⟩, .slice A4 el.length c4, .string ⟨EX.toArray⟩, .slice B4 em.length d4, .string ⟨#[]⟩, .slice none 0 0, .bool false, .bool false, .int .i64 ((alignM W ((tq : Int) + (Y.length : Nat) - 1) : Nat))] := out_ten T9.out.res _ _ _ _ _ _ _ _ _ _
                change bodyPost _ _ _ _ _ (setMany wa (w.heap.size + 1 + 1) [(0, .int .i64 ea), (1, .string ⟨ES.toArray⟩), (2, .slice A4 el.length c4), (3, .string ⟨EX.toArray⟩), (4, .slice B4 em.length d4), (5, .string ⟨#[]⟩), (6, .slice none 0 0), (7, .bool false), (8, .bool false), (9, .int .i64 ((alignM W ((tq : Int) + (Y.length : Nat) - 1) : Nat)))])
                generalize setMany wa (w.heap.size + 1 + 1) [(0, .int .i64 ea), (1, .string ⟨ES.toArray⟩), (2, .slice A4 el.length c4), (3, .string ⟨EX.toArray⟩), (4, .slice B4 em.length d4), (5, .string ⟨#[]⟩), (6, .slice none 0 0), (7, .bool false), (8, .bool false), (9, .int .i64 ((alignM W ((tq : Int) + (Y.length : Nat) - 1) : Nat)))] = wz at *
                refine ret_out rfl _ _ (w.heap.size + 1 + 1) #[.int .i64 ea, .string ⟨ES.toArray⟩, .slice A4 el.length c4, .string ⟨EX.toArray⟩, .slice B4 em.length d4, .string ⟨#[]⟩, .slice none 0 0, .bool false, .bool false, .int .i64 ((alignM W ((tq : Int) + (Y.length : Nat) - 1) : Nat))] rfl rfl EB9 rfl ?_
                rw [← HV5.out]
                exact ⟨A4, c4, B4, d4, none, 0, rfl, EE.1, EE.2.1, EE.2.2.1, EE.2.2.2⟩
            · have HV4 := Lib.hid ((if_neg hrn).symm.trans HV2.out)
              clear HV2
              have g17 : ((rn : Int) != 0) = true := by rw [bne_iff_ne]; omega
              have g18 : ((rn : Int) == 0) = false := by rw [beq_eq_false_iff_ne]; omega
              obtain ⟨⟨r0, r1, r2, r3, r4, r5, r6, r7, r8, r9⟩, t0, t1, t2, t3, t4, t5, t6, t7, t8, t9⟩ := out_cells T4.out.res
              go_wp2_with fail
              have EE := out_end (A := none) (B := none) (C := none) (l := []) (m := []) (q := []) T4.out.res noLab_out T4.out.bel (by omega) (.inl rfl) (.inl rfl) (.inl rfl) [(0, .int .i64 0), (1, .string ⟨#[]⟩), (2, .slice none 0 0), (3, .string ⟨#[]⟩), (4, .slice none 0 0), (5, .string ⟨#[]⟩), (6, .slice none 0 0), (7, .bool false), (8, .bool false), (9, .int .i64 0)]
              have EB : Blk (setMany w9 (w.heap.size + 1 + 1) [(0, .int .i64 0), (1, .string ⟨#[]⟩), (2, .slice none 0 0), (3, .string ⟨#[]⟩), (4, .slice none 0 0), (5, .string ⟨#[]⟩), (6, .slice none 0 0), (7, .bool false), (8, .bool false), (9, .int .i64 0)]) (w.heap.size + 1 + 1) 47 #[.int .i64 0, .string ⟨#[]⟩, .slice none 0 0, .string ⟨#[]⟩, .slice none 0 0, .string ⟨#[]⟩, .slice none 0 0, .bool false, .bool false, .int .i64 0] := out_ten T4.out.res _ _ _ _ _ _ _ _ _ _
              change bodyPost _ _ _ _ _ (setMany w9 (w.heap.size + 1 + 1) [(0, .int .i64 0), (1, .string ⟨#[]⟩), (2, .slice none 0 0), (3, .string ⟨#[]⟩), (4, .slice none 0 0), (5, .string ⟨#[]⟩), (6, .slice none 0 0), (7, .bool false), (8, .bool false), (9, .int .i64 0)])
              generalize setMany w9 (w.heap.size + 1 + 1) [(0, .int .i64 0), (1, .string ⟨#[]⟩), (2, .slice none 0 0), (3, .string ⟨#[]⟩), (4, .slice none 0 0), (5, .string ⟨#[]⟩), (6, .slice none 0 0), (7, .bool false), (8, .bool false), (9, .int .i64 0)] = wz at *
              refine ret_out rfl _ _ (w.heap.size + 1 + 1) #[.int .i64 0, .string ⟨#[]⟩, .slice none 0 0, .string ⟨#[]⟩, .slice none 0 0, .string ⟨#[]⟩, .slice none 0 0, .bool false, .bool false, .int .i64 0] rfl rfl EB rfl ?_
              rw [← HV4.out]
              exact ⟨none, 0, none, 0, none, 0, rfl, EE.1, EE.2.1, EE.2.2.1, EE.2.2.2⟩
  · have HV2 := Lib.hid ((if_pos (.inl hn)).symm.trans HV.out)
    have g0 : ((vn : Int) != 0) = true := by rw [bne_iff_ne]; omega
    clear HV
    go_upto_region 3 with fail
    obtain ⟨⟨r0, r1, r2, r3, r4, r5, r6, r7, r8, r9⟩, t0, t1, t2, t3, t4, t5, t6, t7, t8, t9⟩ := out_cells T.out.res
    go_wp2_with fail
    have EE := out_end (A := none) (B := none) (C := none) (l := []) (m := []) (q := []) T.out.res noLab_out T.out.bel (by omega) (.inl rfl) (.inl rfl) (.inl rfl) [(0, .int .i64 0), (1, .string ⟨#[]⟩), (2, .slice none 0 0), (3, .string ⟨#[]⟩), (4, .slice none 0 0), (5, .string ⟨#[]⟩), (6, .slice none 0 0), (7, .bool false), (8, .bool false), (9, .int .i64 0)]
    have EB : Blk (setMany w2 (w.heap.size + 1 + 1) [(0, .int .i64 0), (1, .string ⟨#[]⟩), (2, .slice none 0 0), (3, .string ⟨#[]⟩), (4, .slice none 0 0), (5, .string ⟨#[]⟩), (6, .slice none 0 0), (7, .bool false), (8, .bool false), (9, .int .i64 0)]) (w.heap.size + 1 + 1) 47 #[.int .i64 0, .string ⟨#[]⟩, .slice none 0 0, .string ⟨#[]⟩, .slice none 0 0, .string ⟨#[]⟩, .slice none 0 0, .bool false, .bool false, .int .i64 0] := out_ten T.out.res _ _ _ _ _ _ _ _ _ _
    change bodyPost _ _ _ _ _ (setMany w2 (w.heap.size + 1 + 1) [(0, .int .i64 0), (1, .string ⟨#[]⟩), (2, .slice none 0 0), (3, .string ⟨#[]⟩), (4, .slice none 0 0), (5, .string ⟨#[]⟩), (6, .slice none 0 0), (7, .bool false), (8, .bool false), (9, .int .i64 0)])
    generalize setMany w2 (w.heap.size + 1 + 1) [(0, .int .i64 0), (1, .string ⟨#[]⟩), (2, .slice none 0 0), (3, .string ⟨#[]⟩), (4, .slice none 0 0), (5, .string ⟨#[]⟩), (6, .slice none 0 0), (7, .bool false), (8, .bool false), (9, .int .i64 0)] = wz at *
    refine ret_out rfl _ _ (w.heap.size + 1 + 1) #[.int .i64 0, .string ⟨#[]⟩, .slice none 0 0, .string ⟨#[]⟩, .slice none 0 0, .string ⟨#[]⟩, .slice none 0 0, .bool false, .bool false, .int .i64 0] rfl rfl EB rfl ?_
    rw [← HV2.out]
    exact ⟨none, 0, none, 0, none, 0, rfl, EE.1, EE.2.1, EE.2.2.1, EE.2.2.2⟩
end Go.Proofs.YtgpmfkedcoiopaaGreatDoor

/-
  Contracts of the document's own answers, layer 7: Of, Invert, Same.
-/
import Derived.Test.YtfeaffabminpfaaEdiOf
import Derived.Test.YtfeaffabminpfaaM04
namespace Go.Proofs.Ytfeaffabminpfaa
open Go.RowKit

theorem grow_txt {wx : World} {A : Option Addr} {S : List UInt8} {l : List RunP} (h : Txu wx A S l) : Grow wx (fun w' => Txt w' wx.heap.size A S l) := fun _ hb => Txt.below h hb

set_option maxHeartbeats 1000000 in
theorem refEInvert_any (A A2 : Option Addr) (c d : Nat) (a : Int) (S : List UInt8) (l : List RunP) (X : List UInt8) (m : List RunP) (w : World) (h : Txu w A S l) (hX : Txu w A2 X m) :
    Calls Try.prog 34 #[.agg #[.int .i64 a, .string ⟨S.toArray⟩, .slice A l.length c, .string ⟨X.toArray⟩, .slice A2 m.length d]] w (GivesE1 w a X m S l) := by
  have BX := Lib.hid (boxesE2 w 34 34 #[.int .i64 a, .string ⟨S.toArray⟩, .slice A l.length c, .string ⟨X.toArray⟩, .slice A2 m.length d] #[.int .i64 0, .string ⟨#[]⟩, .slice none 0 0, .string ⟨#[]⟩, .slice none 0 0])
  obtain ⟨y0, y1, y2, y3, y4⟩ := ed_cells BX.out.now.1
  obtain ⟨⟨u0, u1, u2, u3, u4⟩, u5, u6, u7, u8, u9⟩ := ed_var BX.out.now.2.1
  have E := Lib.hid (boxesE2 w 34 34 #[.int .i64 a, .string ⟨S.toArray⟩, .slice A l.length c, .string ⟨X.toArray⟩, .slice A2 m.length d] #[.int .i64 a, .string ⟨X.toArray⟩, .slice A2 m.length d, .string ⟨S.toArray⟩, .slice A l.length c])
  have T := Lib.hid (((grow_txu h).and (grow_txu hX)).step E.out.now.2.2)
  clear h hX
  go_enter Try.func34, Try.ntmps34
  go_wp2_with fail
  clear y0 y1 y2 y3 y4 u0 u1 u2 u3 u4 u5 u6 u7 u8 u9 BX
  generalize (w.alloc (.cells #[.int .i64 a, .string ⟨S.toArray⟩, .slice A l.length c, .string ⟨X.toArray⟩, .slice A2 m.length d] 34)).alloc (.cells #[.int .i64 a, .string ⟨X.toArray⟩, .slice A2 m.length d, .string ⟨S.toArray⟩, .slice A l.length c] 34) = wz at *
  refine ret_edit1 rfl _ _ (w.heap.size + 1) _ _ _ _ _ rfl E.out.now.2.1 rfl ?_
  exact ⟨A2, d, A, c, rfl, T.out.now.2.row, T.out.now.1.row, E.out.now.2.2⟩

set_option maxHeartbeats 1000000 in
/-- an edit is the same as itself, wherever its runs lie -/
theorem refESame_any (A A2 B B2 : Option Addr) (c d c2 d2 : Nat) (a : Int) (S : List UInt8) (l : List RunP) (X : List UInt8) (m : List RunP) (w : World) (h : Txu w A S l) (hX : Txu w A2 X m) (h2 : Txu w B S l) (hX2 : Txu w B2 X m) :
    Calls Try.prog 14 #[.agg #[.int .i64 a, .string ⟨S.toArray⟩, .slice A l.length c, .string ⟨X.toArray⟩, .slice A2 m.length d], .agg #[.int .i64 a, .string ⟨S.toArray⟩, .slice B l.length c2, .string ⟨X.toArray⟩, .slice B2 m.length d2]] w fun e w' => e = .returned (.bool true) ∧ Below w.heap.size w w' := by
  have BX := Lib.hid (boxesE2 w 34 34 #[.int .i64 a, .string ⟨S.toArray⟩, .slice A l.length c, .string ⟨X.toArray⟩, .slice A2 m.length d] #[.int .i64 a, .string ⟨S.toArray⟩, .slice B l.length c2, .string ⟨X.toArray⟩, .slice B2 m.length d2])
  have K := Lib.hid (BX.out.and (((grow_txu h).and ((grow_txu hX).and ((grow_txu h2).and (grow_txu hX2)))).step BX.out.now.2.2))
  clear h hX h2 hX2 BX
  obtain ⟨y0, y1, y2, y3, y4⟩ := ed_cells K.out.now.1.1
  obtain ⟨u0, u1, u2, u3, u4⟩ := ed_cells K.out.now.1.2.1
  go_enter Try.func14, Try.ntmps14
  go_wp2_with (first
    | (go_at_call_of 28 S; refine (refTSame_any A B c c2 _ _ S S l l _ (Nat.le_refl _) (Nat.le_refl _) K.out.now.2.1 K.out.now.2.2.2.1).mono ?_; rw [decide_eq_true ⟨rfl, rfl⟩]; rintro e w1 ⟨rfl, bb⟩; replace K := Lib.hid (K.out.step bb); clear bb y0 y1 y2 y3 y4 u0 u1 u2 u3 u4; obtain ⟨y0, y1, y2, y3, y4⟩ := ed_cells K.out.now.1.1; obtain ⟨u0, u1, u2, u3, u4⟩ := ed_cells K.out.now.1.2.1)
    | (go_at_call_of 28 X; refine (refTSame_any A2 B2 d d2 _ _ X X m m _ (Nat.le_refl _) (Nat.le_refl _) K.out.now.2.2.1 K.out.now.2.2.2.2).mono ?_; rw [decide_eq_true ⟨rfl, rfl⟩]; rintro e w2 ⟨rfl, bb⟩; replace K := Lib.hid (K.out.step bb); clear bb y0 y1 y2 y3 y4 u0 u1 u2 u3 u4))
  go_ret
  exact ⟨rfl, K.out.now.1.2.2⟩
end Go.Proofs.Ytfeaffabminpfaa

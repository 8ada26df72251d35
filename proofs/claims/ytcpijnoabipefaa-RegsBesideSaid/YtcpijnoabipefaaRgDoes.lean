/-
  A call of whatever kind: layer 9.
-/
import Derived.Test.YtcpijnoabipefaaRgAlive
import Derived.Test.YtcpijnoabipefaaRgOpen
namespace Go.Proofs.Ytcpijnoabipefaa
open Go.RowKit

def doesR (R : List RegP) (n : Int) (S : List UInt8) (l : List RunP) (b cut wide : Bool) : List RegP × Nat := if cut = true then deleteR R n S l b wide else yankR R n S l b
theorem six_cells {w : World} {g T : Nat} {a b c d e f : Value} (h : Blk w g T #[a, b, c, d, e, f]) : w.cell? ⟨g, 0, none⟩ = some a ∧ w.cell? ⟨g, 1, none⟩ = some b ∧ w.cell? ⟨g, 2, none⟩ = some c ∧ w.cell? ⟨g, 3, none⟩ = some d ∧ w.cell? ⟨g, 4, none⟩ = some e ∧ w.cell? ⟨g, 5, none⟩ = some f :=
  ⟨by have := h.cell 0; simpa using this, by have := h.cell 1; simpa using this, by have := h.cell 2; simpa using this, by have := h.cell 3; simpa using this, by have := h.cell 4; simpa using this, by have := h.cell 5; simpa using this⟩
set_option maxHeartbeats 4000000 in
theorem rgDoes_any {P : Nat → Prop} {w : World} {g : Nat} {R : List RegP} (h : Rgs w P g R) (n : Int) (hn : -2147483648 ≤ n ∧ n ≤ 2147483647) (A : Option Addr) (c : Nat) (S : List UInt8) (l : List RunP) (b cut wide : Bool) (hx : Txu w A S l) :
    Calls Try.prog 14 #[.pointer (some ⟨g, 0, none⟩), .agg #[.int .i32 n, .string ⟨S.toArray⟩, .slice A l.length c, .bool b, .bool cut, .bool wide]] w (GivesR w P g (doesR R n S l b cut wide)) := by
  have K := Lib.hid ((boxN w #[.int .i32 n, .string ⟨S.toArray⟩, .slice A l.length c, .bool b, .bool cut, .bool wide] 40).and (((grow_txu hx).and h.grow).alloc _))
  clear h hx
  go_enter Try.func14, Try.ntmps14
  go_upto_region 1 with fail
  generalize w.alloc (.cells #[.int .i32 n, .string ⟨S.toArray⟩, .slice A l.length c, .bool b, .bool cut, .bool wide] 40) = wb at *
  obtain ⟨y0, y1, y2, y3, y4, y5⟩ := six_cells K.out.now.1.1
  rcases cut with _ | _
  · go_wp2_with (go_at_call 19; refine (rgYank_any K.out.now.2.2 n hn A c S l b K.out.now.2.1).mono ?_; rintro e w' ⟨rfl, hr, ht⟩)
    go_ret
    exact ⟨rfl, hr, (Tch.fresh K.out.now.1.2).trans ht⟩
  · go_wp2_with (go_at_call 10; refine (rgDelete_any K.out.now.2.2 n hn A c S l b wide K.out.now.2.1).mono ?_; rintro e w' ⟨rfl, hr, ht⟩)
    go_ret
    exact ⟨rfl, hr, (Tch.fresh K.out.now.1.2).trans ht⟩
theorem doesR_ok {R : List RegP} (h : OkRs R) (n : Int) {S : List UInt8} {l : List RunP} (b cut wide : Bool) (hf : Fits l) : OkRs (doesR R n S l b cut wide).1 := by
  unfold doesR
  split
  · exact deleteR_ok h n b wide hf
  · exact yankR_ok h n b hf
end Go.Proofs.Ytcpijnoabipefaa

/-
  The way from the first state to the present one: layer 8.
-/
import Derived.Test.YtfeaffabminpfaaHiNums
namespace Go.Proofs.Ytfeaffabminpfaa
open Go.RowKit

theorem backN_neg (G : List StP) (k : Nat) : backN G k (-1) = [] := by
  cases k with
  | zero => rfl
  | succ k => rw [backN_succ, if_neg (by decide)]

theorem field_up (up a : Int) (S X : ByteArray) (A B : Option Addr) (n c m d : Nat) (w : World) : (Instr.field 74 (.agg #[.int .i64 up, .int .i64 a, .string S, .slice A n c, .string X, .slice B m d]) 0).run Try.prog w = .ok (.int .i64 up) w := by kernel_rfl
theorem field_by (up a : Int) (S X : ByteArray) (A B : Option Addr) (n c m d : Nat) (w : World) : (Instr.field 74 (.agg #[.int .i64 up, .int .i64 a, .string S, .slice A n c, .string X, .slice B m d]) 1).run Try.prog w = .ok (.agg #[.int .i64 a, .string S, .slice A n c, .string X, .slice B m d]) w := by kernel_rfl
theorem MapS.at {w : World} {b : Nat} {L : List StP} (h : MapS w b L) {n : Int} (hn : -1 ≤ n ∧ n ≤ 1000000) {n1 up a : Int} {S : List UInt8} {A : Option Addr} {l : List RunP} {c : Nat} {X : List UInt8} {B : Option Addr} {m : List RunP} {d : Nat} {is : Bool}
    (hf : findS L n = (⟨n1, up, ⟨a, S, A, l, c, X, B, m, d⟩⟩, is)) : (Instr.lookup 65 (.map (some b)) (.int .i64 n) false).run Try.prog w = .ok (.agg #[.int .i64 up, .int .i64 a, .string ⟨S.toArray⟩, .slice A l.length c, .string ⟨X.toArray⟩, .slice B m.length d]) w := by
  have e := h.look hn
  rw [hf] at e
  exact e
theorem MapS.at_ok {w : World} {b : Nat} {L : List StP} (h : MapS w b L) {n : Int} (hn : -1 ≤ n ∧ n ≤ 1000000) {n1 up a : Int} {S : List UInt8} {A : Option Addr} {l : List RunP} {c : Nat} {X : List UInt8} {B : Option Addr} {m : List RunP} {d : Nat} {is : Bool}
    (hf : findS L n = (⟨n1, up, ⟨a, S, A, l, c, X, B, m, d⟩⟩, is)) : (Instr.lookup 65 (.map (some b)) (.int .i64 n) true).run Try.prog w = .ok (.tuple #[.agg #[.int .i64 up, .int .i64 a, .string ⟨S.toArray⟩, .slice A l.length c, .string ⟨X.toArray⟩, .slice B m.length d], .bool is]) w := by
  have e := h.look_ok hn
  rw [hf] at e
  exact e

set_option maxHeartbeats 2000000 in
set_option maxRecDepth 100000 in
theorem hiPath_any {w : World} {p b : Nat} {G : List StP} {dep now last dx : Int} (h : Hst w p b G dep now last) (inv : InvS G now last dx) (hl : last ≤ 1000000) :
    Calls Try.prog 23 #[.pointer (some ⟨p, 0, none⟩)] w (GivesI w (pathS G now)) := by
  obtain ⟨y0, y1, y2, y3⟩ := h.cells
  have H := Lib.hid h
  have HI := Lib.hid inv
  have hlen := inv.small
  have hnow := inv.hnow
  clear h inv y0 y2
  go_enter Try.func23, Try.ntmps23
  go_wp2_with (go_at_call 31; refine (hiUsable_any H.out.blk).mono ?_; rintro e w' ⟨rfl, rfl⟩)
  rename World => w
  go_loopw [3, 4] (fun v i wr => ∃ (pre : List Int) (n : Int), i = .int .i64 n ∧ (n = -1 ∨ ∃ s ∈ G, s.n = n) ∧ wr.ownsRow w.heap.size 3 1 v pre.length (pre.map intz) ∧ backN G G.length now = pre ++ backN G G.length n ∧ Below w.heap.size w wr) (fun _ i _ => (intOf i + 1).toNat)
  case atStart => exact ⟨[], now, rfl, Or.inr hnow, World.ownsRow_nil _ _ _ _, rfl, Below.refl _ _⟩
  case round =>
    obtain ⟨pre, n, rfl, hn, hown, hback, hb⟩ := hrel
    have z := hb.size
    have hpre : pre.length ≤ 66 := by
      have := backN_len G G.length now
      rw [hback, List.length_append] at this
      omega
    have HB := Lib.hid hback
    have KR := Lib.hid (H.out.fresh hb)
    obtain ⟨Av, cv, rfl⟩ := own_form hown
    clear hback
    rcases hn with rfl | ⟨s, hs, rfl⟩
    · have hp : pre = backN G G.length now := by have := HB.out; rw [backN_neg, List.append_nil] at this; exact this.symm
      have HP := Lib.hid hp
      clear hp
      go_wp2_with (go_at_call 43; refine (hiReverse_any w.heap.size wr Av cv pre (by omega) hown z).mono ?_; rintro e w2 ⟨rfl, own2, b2⟩)
      go_ret
      have e : pathS G now = pre.reverse := by rw [HP.out]; rfl
      rw [e]
      exact ⟨Av, cv, by rw [List.length_reverse]; rfl, by rw [List.length_reverse]; exact own2, hb.trans b2⟩
    · have hf := find_self HI.out.hup hs
      have hlow := HI.out.hlow s hs
      have hkid := HI.out.kid hs
      have hfull := HI.out.full hs
      obtain ⟨y0, y1, y2, y3⟩ := KR.out.cells
      clear y0 y1 y2
      obtain ⟨n1, up, ⟨a, S, A1, l, c1, X, B1, m, d⟩⟩ := s
      dsimp only at hf hlow hkid hfull
      have ht : (n1 != -1) = true := by rw [bne_iff_ne]; omega
      have HFU := Lib.hid hfull
      have HF := Lib.hid hf
      have HK := Lib.hid hkid
      clear hfull hf hkid hs
      have qf := field_up up a ⟨S.toArray⟩ ⟨X.toArray⟩ A1 B1 l.length c1 m.length d
      go_wp2_with (at_builtin; refine wpList_push rfl _ _ _ rfl w.heap.size 3 _ 8 elt_int _ _ _ _ rfl hown (.int .i64 n1) rfl rfl (by unfold maxLen; omega) (by omega) z ?_; intro v5 w5 hown5 hb5; have K5 := Lib.hid (H.out.fresh (hb.trans hb5)); have hq := K5.out.map.at ⟨by omega, by omega⟩ HF.out; obtain ⟨x0, x1, x2, x3⟩ := K5.out.cells; clear x0 x1 x2 hown)
      go_roundw
      case rel =>
        refine ⟨pre ++ [n1], up, rfl, ?_, ?_, ?_, hb.trans hb5⟩
        · rcases HK.out with e | ⟨_, _, o, ho, e⟩
          · exact Or.inl e
          · exact Or.inr ⟨o, ho, e⟩
        · rw [List.length_append, List.map_append]; exact hown5
        · rw [HB.out, HFU.out]; simp
      case measure =>
        have := HK.out
        simp [intOf]
        omega
end Go.Proofs.Ytfeaffabminpfaa

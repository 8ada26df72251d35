/-
  The landed Redo: layer 8.
-/
import Derived.Test.YtfeaffabminpfaaHiYoung
import Derived.Test.YtfeaffabminpfaaHiUndo
namespace Go.Proofs.Ytfeaffabminpfaa
open Go.RowKit

theorem young_none {G : List StP} {now c : Int} (h : Young G now c) (hn : ∀ s ∈ G, s.up ≠ now) : c = -1 := by
  rcases h.1 with e | ⟨s, hs, hu, _⟩
  · exact e
  · exact absurd hu (hn s hs)
theorem young_some {G : List StP} {now c : Int} (h : Young G now c) {s : StP} (hs : s ∈ G) (h0 : 0 ≤ s.n) (hu : s.up = now) (hmax : ∀ t ∈ G, t.up = now → t.n ≤ s.n) : c = s.n := by
  have h1 := h.2 s hs hu
  rcases h.1 with e | ⟨t, ht, htu, e⟩
  · omega
  · have := hmax t ht htu; omega

set_option maxRecDepth 100000 in
set_option maxHeartbeats 4000000 in
theorem hiRedo_none {w : World} {p b : Nat} {G : List StP} {dep now last : Int} (h : Hst w p b G dep now last) (hu : UpS G) (hn : ∀ s ∈ G, s.up ≠ now) :
    Calls Try.prog 15 #[.pointer (some ⟨p, 0, none⟩)] w (NoneE w 6) := by
  have K := Lib.hid (hst_box h #[.int .i64 0, .string ⟨#[]⟩, .slice none 0 0, .string ⟨#[]⟩, .slice none 0 0] 34)
  have HN := Lib.hid hn
  have HU := Lib.hid hu
  clear h hn hu
  go_enter Try.func15, Try.ntmps15
  go_upto_region 3 with (go_at_call 31; refine (hiUsable_any K.out.now.2.1.blk).mono ?_; rintro e w' ⟨rfl, rfl⟩)
  generalize w.alloc (.cells #[.int .i64 0, .string ⟨#[]⟩, .slice none 0 0, .string ⟨#[]⟩, .slice none 0 0] 34) = wb at *
  go_wp2_with (go_at_call 35; refine (hiYoung_any K.out.now.2.1 HU.out).mono ?_; rintro e w2 ⟨c, rfl, hy, bb⟩; obtain rfl := young_none hy HN.out; have K2 := Lib.hid (K.out.step bb); clear hy bb; obtain ⟨⟨u0, u1, u2, u3, u4⟩, u5, u6, u7, u8, u9⟩ := ed_var K2.out.now.1)
  have E := blk_five K2.out.now.1 (.int .i64 0) (.string ⟨#[]⟩) (.slice none 0 0) (.string ⟨#[]⟩) (.slice none 0 0)
  refine ret_edit rfl _ _ w.heap.size _ _ _ _ _ rfl E rfl ?_
  exact ⟨rfl, below_five K2.out.now.2.2 (Nat.le_refl _) _ _ _ _ _⟩

set_option maxRecDepth 100000 in
set_option maxHeartbeats 4000000 in
theorem hiRedo_some {w : World} {p b : Nat} {G : List StP} {dep now last : Int} (h : Hst w p b G dep now last) (hu : UpS G) {n1 up a : Int} {S : List UInt8} {A1 : Option Addr} {l : List RunP} {c1 : Nat} {X : List UInt8} {B1 : Option Addr} {m : List RunP} {d : Nat}
    (hs : StP.mk n1 up ⟨a, S, A1, l, c1, X, B1, m, d⟩ ∈ G) (h0 : 0 ≤ n1 ∧ n1 ≤ 1000000) (hup : up = now) (hmax : ∀ t ∈ G, t.up = now → t.n ≤ n1) (hl : l.length ≤ 1000000) (hm : m.length ≤ 1000000) :
    Calls Try.prog 15 #[.pointer (some ⟨p, 0, none⟩)] w (GivesU w p b G dep last n1 a S l X m) := by
  have K := Lib.hid (hst_box h #[.int .i64 0, .string ⟨#[]⟩, .slice none 0 0, .string ⟨#[]⟩, .slice none 0 0] 34)
  have HP := Lib.hid h.blk.lt
  have HE := Lib.hid (fun (w' : World) (hb : Hst w' p b G dep n1 last) => hb.eds _ hs)
  have HH := Lib.hid h
  have HY := Lib.hid (fun (c : Int) (hy : Young G now c) => young_some hy hs h0.1 hup hmax)
  have HF := Lib.hid (find_self hu hs)
  have HU := Lib.hid hu
  have ht : (n1 == -1) = false := by rw [beq_eq_false_iff_ne]; omega
  clear h hs hup hmax hu
  go_enter Try.func15, Try.ntmps15
  go_upto_region 3 with (go_at_call 31; refine (hiUsable_any K.out.now.2.1.blk).mono ?_; rintro e w' ⟨rfl, rfl⟩)
  generalize w.alloc (.cells #[.int .i64 0, .string ⟨#[]⟩, .slice none 0 0, .string ⟨#[]⟩, .slice none 0 0] 34) = wb at *
  go_upto_region 7 with (go_at_call 35; refine (hiYoung_any K.out.now.2.1 HU.out).mono ?_; rintro e w2 ⟨c, rfl, hy, bb⟩; obtain rfl := HY.out c hy; have KC := Lib.hid (K.out.step bb); clear hy bb; obtain ⟨⟨v0, v1, v2, v3⟩, v4, v5, v6, v7⟩ := KC.out.now.2.1.var)
  have hlw : w.heap.size < w2.heap.size := KC.out.now.1.lt
  have hp := HP.out
  have HD := Lib.hid (KC.out.now.2.1.setNow c)
  have BD := Lib.hid (KC.out.now.1.far (p := ⟨p, 1, none⟩) (show w.heap.size ≠ p by omega) (.int .i64 c))
  have WD := Lib.hid ((Tch.fresh (P := fun k => k = p) KC.out.now.2.2).setCell (p := ⟨p, 1, none⟩) (fun _ => rfl) (.int .i64 c))
  clear v0 v1 v2 v3 v4 v5 v6 v7 KC K HY
  generalize w2.setCell ⟨p, 1, none⟩ (.int .i64 c) = wd at *
  obtain ⟨y0, y1, y2, y3⟩ := HD.out.cells
  have hq := HD.out.map.at ⟨by omega, h0.2⟩ HF.out
  have qf := field_by up a ⟨S.toArray⟩ ⟨X.toArray⟩ A1 B1 l.length c1 m.length d
  go_wp2_with (go_at_call 36; refine (hiCopied_any A1 B1 c1 d a S l X m hl hm wd (HE.out _ HD.out).1.txu (HE.out _ HD.out).2.txu).mono ?_; rintro e w3 ⟨A5, c5, A6, d6, rfl, r1, r2, bb⟩; have R1 := Lib.hid r1; have R2 := Lib.hid r2; have BB := Lib.hid bb; clear r1 r2 bb y0 y1 y2 y3 hq; obtain ⟨⟨u0, u1, u2, u3, u4⟩, u5, u6, u7, u8, u9⟩ := ed_var (BD.out.below BB.out BD.out.lt))
  have hlt : w.heap.size < wd.heap.size := BD.out.lt
  have E := blk_five (BD.out.below BB.out BD.out.lt) (.int .i64 a) (.string ⟨S.toArray⟩) (.slice A5 l.length c5) (.string ⟨X.toArray⟩) (.slice A6 m.length d6)
  have hT := (WD.out.trans (Tch.fresh BB.out)).five (Nat.le_refl _) (.int .i64 a) (.string ⟨S.toArray⟩) (.slice A5 l.length c5) (.string ⟨X.toArray⟩) (.slice A6 m.length d6)
  have hB := five_far (HD.out.fresh BB.out).blk (show p ≠ w.heap.size by omega) (.int .i64 a) (.string ⟨S.toArray⟩) (.slice A5 l.length c5) (.string ⟨X.toArray⟩) (.slice A6 m.length d6)
  refine ret_edit rfl _ _ w.heap.size _ _ _ _ _ rfl E rfl ?_
  exact ⟨A5, c5, A6, d6, rfl, HH.out.again hT hB, (R1.out.five hlt _ _ _ _ _).less (Nat.le_of_lt hlt), (R2.out.five hlt _ _ _ _ _).less (Nat.le_of_lt hlt), hT⟩
end Go.Proofs.Ytfeaffabminpfaa

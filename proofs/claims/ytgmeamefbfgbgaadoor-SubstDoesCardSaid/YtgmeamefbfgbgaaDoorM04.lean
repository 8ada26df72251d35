/-
  Merged: StrTxt, StrGood, StrMake, StrView, StrCut, StrPart, StrRaise, StrSplice, StrOther, TextOpen, HideOpen.
-/
import Derived.Test.YtgmeamefbfgbgaaDoorM03
import Derived.Deep.RegionHeld3
import Derived.Laws.ResultCell
import Derived.Test.YtgmeamefbfgbgaaDoorM01
/-
  Labelled texts: layer 4.
-/
namespace Go.Proofs.YtgmeamefbfgbgaaDoor
set_option maxRecDepth 100000
open Go.RowKit

/-- a text that is held: its bytes, and its runs in a row -/
structure Txt (w : World) (B : Nat) (A : Option Addr) (S : List UInt8) (l : List RunP) : Prop where
  hS : S.length ≤ maxLen
  hf : Fits l
  hl : l.length ≤ maxLen
  row : Row w B A (flatR l)
theorem Txt.below {w w' : World} {B : Nat} {A : Option Addr} {S : List UInt8} {l : List RunP} (h : Txt w B A S l) (hb : Below B w w') : Txt w' B A S l := ⟨h.hS, h.hf, h.hl, h.row.below hb⟩
theorem Txt.more {w : World} {B B' : Nat} {A : Option Addr} {S : List UInt8} {l : List RunP} (h : Txt w B A S l) (hB : B ≤ B') : Txt w B' A S l := ⟨h.hS, h.hf, h.hl, h.row.more hB⟩
theorem Txt.drewN {w : World} {B : Nat} {A : Option Addr} {S : List UInt8} {l : List RunP} (h : Txt w B A S l) (n : Nat) : Txt (w.drewN n) B A S l := ⟨h.hS, h.hf, h.hl, h.row.drewN n⟩

def goodT (S : List UInt8) (l : List RunP) : Bool := goodB l && ((totalOf l : Int) == (S.length : Int))
theorem goodT_iff (S : List UInt8) (l : List RunP) : goodT S l = true ↔ goodB l = true ∧ (bytesOf l).length = S.length := by
  unfold goodT
  rw [Bool.and_eq_true]
  constructor
  · rintro ⟨h1, h2⟩
    have := totalOf_good h1
    simp at h2
    exact ⟨h1, by omega⟩
  · rintro ⟨h1, h2⟩
    have := totalOf_good h1
    exact ⟨h1, by simp; omega⟩
theorem goodT_size {S : List UInt8} {l : List RunP} (h : goodT S l = true) : S.length ≤ 4096 ∧ sumN l ≤ 4096 ∧ (bytesOf l).length = S.length := by
  have h1 := (goodT_iff S l).1 h
  have h2 := ((goodB_iff l).1 h1.1).1
  have h3 := bytesOf_len l
  exact ⟨by omega, h2, h1.2⟩

/-- the two cells of a text's variable -/
theorem txt_cells {w : World} {g : Nat} {T : TypeId} {u v : Value} (h : Blk w g T #[u, v]) : w.cell? ⟨g, 0, none⟩ = some u ∧ w.cell? ⟨g, 1, none⟩ = some v :=
  ⟨by have := h.cell 0; simpa using this, by have := h.cell 1; simpa using this⟩

/-- a text and a number are the answer -/
def GivesT (w : World) (r : (List UInt8 × List RunP) × Nat) (e : Ending) (w' : World) : Prop :=
  ∃ A c, e = .returned (.tuple #[.agg #[.string ⟨r.1.1.toArray⟩, .slice A r.1.2.length c], .int .i64 (r.2 : Nat)]) ∧ w'.ownsRow w.heap.size 51 2 (.slice A r.1.2.length c) r.1.2.length (flatR r.1.2) ∧ Below w.heap.size w w'
theorem givesT_nil {w w' : World} {n : Nat} (hb : Below w.heap.size w w') : GivesT w (([], []), n) (.returned (.tuple #[.agg #[.string ⟨#[]⟩, .slice none 0 0], .int .i64 (n : Nat)])) w' :=
  ⟨none, 0, rfl, World.ownsRow_nil _ _ _ _, hb⟩

theorem text_facts : (∃ fs, Tryd.prog.underlying 24 = some (.struct fs)) ∧ (Tryd.prog.info? 24).map (·.size) = some 2 := ⟨⟨_, Tryd.underlying24⟩, by kernel_rfl⟩
/-- a text in a variable, and a number, handed back -/
theorem ret_text {fn : Func} {p u : Tmp} (h : fn.results = #[.cell p 24, .tmp u]) (a : Act) (w : World) (g : Nat) (s v : Value) (hp : a.tmps.getD p undef = .pointer (some ⟨g, 0, none⟩)) (hg : Blk w g 24 #[s, v]) (hd : a.defers = [])
    {Q : Ending → World → Prop} (hQ : Q (.returned (.tuple #[.agg #[s, v], a.tmps.getD u undef])) w) : bodyPost Tryd.prog fn Q .ret a w := by
  obtain ⟨⟨fs, hu⟩, hi⟩ := text_facts
  refine bodyPost_ret (v := .tuple #[.agg #[s, v], a.tmps.getD u undef]) ?_ hd hQ
  have hp' : a.tmps[p]?.getD undef = .pointer (some ⟨g, 0, none⟩) := by simpa using hp
  rw [results_cell_tmp h]
  simp [hp', asAddr, run_loadVar_row w g 24 24 #[s, v] (0, 0) _ hg hu rfl hi]

/-- a text in a variable, handed back alone -/
theorem ret_text1 {fn : Func} {p : Tmp} (h : fn.results = #[.cell p 24]) (a : Act) (w : World) (g : Nat) (s v : Value) (hp : a.tmps.getD p undef = .pointer (some ⟨g, 0, none⟩)) (hg : Blk w g 24 #[s, v]) (hd : a.defers = [])
    {Q : Ending → World → Prop} (hQ : Q (.returned (.agg #[s, v])) w) : bodyPost Tryd.prog fn Q .ret a w := by
  obtain ⟨⟨fs, hu⟩, hi⟩ := text_facts
  exact bodyPost_ret (results_cell_row h a.tmps w g 24 #[s, v] (0, 0) _ hp hg hu rfl hi) hd hQ
theorem own_away {w : World} {base e size n : Nat} {v : Value} {xs : List Value} (h : w.ownsRow base e size v n xs) {p : Addr} (hp : p.block < base) (u : Value) : (w.setCell p u).ownsRow base e size v n xs := by
  refine ⟨h.1, ?_⟩
  rcases h.2 with h | ⟨g, cap, cur, rfl, hg, hh, h⟩
  · exact .inl h
  · exact .inr ⟨g, cap, cur, rfl, hg, (heap_setCell_other w p g u (by omega)).trans hh, h⟩
theorem blk_two {w : World} {g T : Nat} {u v : Value} (h : Blk w g T #[u, v]) (x y : Value) : Blk ((w.setCell ⟨g, 0, none⟩ x).setCell ⟨g, 1, none⟩ y) g T #[x, y] := by
  have := (h.set_ 0 x).set_ 1 y
  simpa using this
/-- the end of a function that hands back a text and a number -/
theorem givesT_end {w w3 : World} {gr b0 c : Nat} {A : Option Addr} {S0 V0 : Value} {l : List RunP} {s : ByteArray} (S : List UInt8) (hs : s = ⟨S.toArray⟩) (n : Nat) (hb : Below w.heap.size w w3) (hg : Blk w3 gr 24 #[S0, V0]) (h1 : w.heap.size ≤ gr) (h2 : gr < b0)
    (hown : w3.ownsRow b0 51 2 (.slice A l.length c) l.length (flatR l)) :
    Blk ((w3.setCell ⟨gr, 0, none⟩ (.string s)).setCell ⟨gr, 1, none⟩ (.slice A l.length c)) gr 24 #[.string s, .slice A l.length c] ∧
    GivesT w ((S, l), n) (.returned (.tuple #[.agg #[.string s, .slice A l.length c], .int .i64 (n : Nat)])) ((w3.setCell ⟨gr, 0, none⟩ (.string s)).setCell ⟨gr, 1, none⟩ (.slice A l.length c)) := by
  subst hs
  refine ⟨blk_two hg _ _, A, c, rfl, ?_, (hb.setCell (by show w.heap.size ≤ gr; exact h1) _).setCell (by show w.heap.size ≤ gr; exact h1) _⟩
  have := own_away (own_away hown (p := ⟨gr, 0, none⟩) h2 (.string ⟨S.toArray⟩)) (p := ⟨gr, 1, none⟩) h2 (.slice A l.length c)
  exact own_base this (by omega)
theorem text_cut (S : List UInt8) (F T : Nat) : ({ data := S.toArray } : ByteArray).extract F T = ⟨((S.drop F).take (T - F)).toArray⟩ := by
  apply ByteArray.ext
  rw [ByteArray.data_extract]
  simp [List.take_drop]
  try omega
/-- the four facts on a text's variable -/
theorem txt_var {w : World} {g T : Nat} {u v : Value} (h : Blk w g T #[u, v]) : w.cell? ⟨g, 0, none⟩ = some u ∧ w.cell? ⟨g, 1, none⟩ = some v ∧ w.frozen? ⟨g, 0, none⟩ = false ∧ w.frozen? ⟨g, 1, none⟩ = false :=
  ⟨(txt_cells h).1, (txt_cells h).2, h.frozen 0, h.frozen 1⟩
end Go.Proofs.YtgmeamefbfgbgaaDoor

/-
  Contracts of the document's own answers, layer 4: Good.
-/
namespace Go.Proofs.YtgmeamefbfgbgaaDoor
set_option maxRecDepth 100000
open Go.RowKit

set_option maxHeartbeats 1000000 in
theorem refTGood_any (A : Option Addr) (c B : Nat) (S : List UInt8) (l : List RunP) (w : World) (hB : B ≤ w.heap.size) (h : Txt w B A S l) :
    Calls Tryd.prog 20 #[.agg #[.string ⟨S.toArray⟩, .slice A l.length c]] w fun e w' => e = .returned (.bool (goodT S l)) ∧ Below w.heap.size w w' := by
  obtain ⟨hS, hf, hl, row⟩ := h
  have HF := Lib.hid hf
  clear hf
  have Q := Lib.hid (Blk.new w 24 #[.string ⟨S.toArray⟩, .slice A l.length c])
  have SX : Hid ((w.alloc (.cells #[.string ⟨S.toArray⟩, .slice A l.length c] 24)).heap.size = w.heap.size + 1) := by show _ = _; simp
  have B0 : Hid (Below w.heap.size w (w.alloc (.cells #[.string ⟨S.toArray⟩, .slice A l.length c] 24)).drew) := ((Below.refl _ w).alloc (Nat.le_refl _) _).drew
  have R0 := Lib.hid (row.below (B0.out.mono hB))
  have S0 : Hid ((w.alloc (.cells #[.string ⟨S.toArray⟩, .slice A l.length c] 24)).drew.heap.size = w.heap.size + 1) := SX.out
  have K0 := Lib.hid (txt_cells (Q.out.drewN 1))
  have Q0 := Lib.hid (Q.out.drewN 1)
  by_cases hg : goodB l = true
  · by_cases ht : ((totalOf l : Int) == (S.length : Int)) = true
    · have HR : Hid (goodT S l = true) := by show _ = _; unfold goodT; rw [hg, ht]; rfl
      go_enter Tryd.func20, Tryd.ntmps20
      go_wp2_with fail
      go_region_held3 (fun w' => w'.cell? ⟨w.heap.size, 0, none⟩ = some (.string ⟨S.toArray⟩) ∧ w'.cell? ⟨w.heap.size, 1, none⟩ = some (.slice A l.length c))
        (first
          | exact K0.out
          | exact K1.out
          | exact K2.out)
        (first
          | (go_at_call 45; refine (refGood_any A c B l HF.out hl _ (by rw [S0.out]; omega) R0.out).mono ?_; rintro e w1 ⟨rfl, hb1⟩; rw [hg]; have Q1 := Lib.hid (Q0.out.below hb1 (by rw [S0.out]; omega)); have K1 := Lib.hid (txt_cells Q1.out); have z1 : w.heap.size + 1 ≤ w1.heap.size := by {have := hb1.size; rw [S0.out] at this; exact this}; have b1 := B0.out.trans (hb1.mono (by rw [S0.out]; omega)); clear hb1)
          | (go_at_call 46; refine (refTotal_any A c B l HF.out hl w1 (by omega) (row.below (b1.mono hB))).mono ?_; rintro e w2 ⟨rfl, hb2⟩; have K2 := Lib.hid (txt_cells (Q1.out.below hb2 (by omega))); have b2 := b1.trans (hb2.mono (by omega)); clear hb2))
      go_wp2
      go_ret
      exact ⟨by rw [HR.out]; rfl, b2⟩
    · have ht' : ((totalOf l : Int) == (S.length : Int)) = false := by simpa using ht
      clear ht
      have HR : Hid (goodT S l = false) := by show _ = _; unfold goodT; rw [hg, ht']; rfl
      go_enter Tryd.func20, Tryd.ntmps20
      go_wp2_with fail
      go_region_held3 (fun w' => w'.cell? ⟨w.heap.size, 0, none⟩ = some (.string ⟨S.toArray⟩) ∧ w'.cell? ⟨w.heap.size, 1, none⟩ = some (.slice A l.length c))
        (first
          | exact K0.out
          | exact K1.out
          | exact K2.out)
        (first
          | (go_at_call 45; refine (refGood_any A c B l HF.out hl _ (by rw [S0.out]; omega) R0.out).mono ?_; rintro e w1 ⟨rfl, hb1⟩; rw [hg]; have Q1 := Lib.hid (Q0.out.below hb1 (by rw [S0.out]; omega)); have K1 := Lib.hid (txt_cells Q1.out); have z1 : w.heap.size + 1 ≤ w1.heap.size := by {have := hb1.size; rw [S0.out] at this; exact this}; have b1 := B0.out.trans (hb1.mono (by rw [S0.out]; omega)); clear hb1)
          | (go_at_call 46; refine (refTotal_any A c B l HF.out hl w1 (by omega) (row.below (b1.mono hB))).mono ?_; rintro e w2 ⟨rfl, hb2⟩; have K2 := Lib.hid (txt_cells (Q1.out.below hb2 (by omega))); have b2 := b1.trans (hb2.mono (by omega)); clear hb2))
      go_wp2
      go_ret
      exact ⟨by rw [HR.out]; rfl, b2⟩
  · have hg' : goodB l = false := by simpa using hg
    have HR : Hid (goodT S l = false) := by show _ = _; unfold goodT; rw [hg']; rfl
    go_enter Tryd.func20, Tryd.ntmps20
    go_wp2_with fail
    refine wp_region_noPanic ?_
    refine wp_region_held_drew (S := fun w' => w'.cell? ⟨w.heap.size, 0, none⟩ = some (.string ⟨S.toArray⟩) ∧ w'.cell? ⟨w.heap.size, 1, none⟩ = some (.slice A l.length c)) (by kernel_rfl) K0.out (fun hS => ?_)
    refine wpAnyH_take (i := 0) (v := .pointer (some ⟨w.heap.size, 1, none⟩)) rfl (by kernel_rfl) (by kernel_rfl) (by kernel_rfl) (fun _ _ _ h => h) (Or.inl ⟨by rfl, fun w' hw' => ?_⟩) hS ?_
    · obtain ⟨y0, y1⟩ := hw'
      go_simp
    try simp only [Act.put, List.getElem_toArray, List.getElem_cons_zero, List.setIfInBounds_toArray, List.set_cons_zero, List.set_cons_succ]
    refine wpAnyH_take (i := 1) (v := .slice A l.length c) rfl (by kernel_rfl) (by kernel_rfl) (by kernel_rfl) (fun _ _ _ h => h) (Or.inl ⟨by rfl, fun w' hw' => ?_⟩) hS ?_
    · obtain ⟨y0, y1⟩ := hw'
      go_simp
    try simp only [Act.put, List.getElem_toArray, List.getElem_cons_succ, List.getElem_cons_zero, List.setIfInBounds_toArray, List.set_cons_zero, List.set_cons_succ]
    refine wpAnyH_ready (rs := [2]) (by kernel_rfl) (by simp) ?_
    refine AllReadyH.cons rfl (fun K hK => ?_) AllReadyH.nil
    go_simp
    refine (refGood_any A c B l HF.out hl _ (by rw [S0.out]; omega) R0.out).mono ?_
    rintro e w1 ⟨rfl, hb1⟩
    rw [hg']
    have Q1 := Lib.hid (Q0.out.below hb1 (by rw [S0.out]; omega))
    have K1 := Lib.hid (txt_cells Q1.out)
    have b1 := B0.out.trans (hb1.mono (by rw [S0.out]; omega))
    clear hb1
    refine hK.out _ _ K1.out (fun hS => ?_)
    try simp only [Act.put, List.getElem_toArray, List.getElem_cons_succ, List.getElem_cons_zero, List.setIfInBounds_toArray, List.set_cons_zero, List.set_cons_succ]
    refine wpAnyH_take (i := 3) (v := .bool false) rfl (by kernel_rfl) (by kernel_rfl) (by kernel_rfl) (fun _ _ _ h => h) (Or.inl ⟨by rfl, fun w' hw' => ?_⟩) hS ?_
    · obtain ⟨y0, y1⟩ := hw'
      go_simp
    try simp only [Act.put, List.getElem_toArray, List.getElem_cons_succ, List.getElem_cons_zero, List.setIfInBounds_toArray, List.set_cons_zero, List.set_cons_succ]
    refine wpAnyH_take (i := 4) (v := undef) rfl (by kernel_rfl) (by kernel_rfl) (by kernel_rfl) (fun _ _ _ h => h) (Or.inr ⟨by rfl, rfl⟩) hS ?_
    try simp only [Act.put, List.getElem_toArray, List.getElem_cons_succ, List.getElem_cons_zero, List.setIfInBounds_toArray, List.set_cons_zero, List.set_cons_succ]
    refine wpAnyH_take (i := 5) (v := undef) rfl (by kernel_rfl) (by kernel_rfl) (by kernel_rfl) (fun _ _ _ h => h) (Or.inr ⟨by rfl, rfl⟩) hS ?_
    try simp only [Act.put, List.getElem_toArray, List.getElem_cons_succ, List.getElem_cons_zero, List.setIfInBounds_toArray, List.set_cons_zero, List.set_cons_succ]
    refine wpAnyH_take (i := 6) (v := undef) rfl (by kernel_rfl) (by kernel_rfl) (by kernel_rfl) (fun _ _ _ h => h) (Or.inr ⟨by rfl, rfl⟩) hS ?_
    try simp only [Act.put, List.getElem_toArray, List.getElem_cons_succ, List.getElem_cons_zero, List.setIfInBounds_toArray, List.set_cons_zero, List.set_cons_succ]
    refine wpAnyH_take (i := 7) (v := undef) rfl (by kernel_rfl) (by kernel_rfl) (by kernel_rfl) (fun _ _ _ h => h) (Or.inr ⟨by rfl, rfl⟩) hS ?_
    try simp only [Act.put, List.getElem_toArray, List.getElem_cons_succ, List.getElem_cons_zero, List.setIfInBounds_toArray, List.set_cons_zero, List.set_cons_succ]
    refine wpAnyH_take (i := 8) (v := undef) rfl (by kernel_rfl) (by kernel_rfl) (by kernel_rfl) (fun _ _ _ h => h) (Or.inr ⟨by rfl, rfl⟩) hS ?_
    try simp only [Act.put, List.getElem_toArray, List.getElem_cons_succ, List.getElem_cons_zero, List.setIfInBounds_toArray, List.set_cons_zero, List.set_cons_succ]
    refine wpAnyH_take (i := 9) (v := undef) rfl (by kernel_rfl) (by kernel_rfl) (by kernel_rfl) (fun _ _ _ h => h) (Or.inr ⟨by rfl, rfl⟩) hS ?_
    try simp only [Act.put, List.getElem_toArray, List.getElem_cons_succ, List.getElem_cons_zero, List.setIfInBounds_toArray, List.set_cons_zero, List.set_cons_succ]
    refine wpAnyH_take (i := 10) (v := undef) rfl (by kernel_rfl) (by kernel_rfl) (by kernel_rfl) (fun _ _ _ h => h) (Or.inr ⟨by rfl, rfl⟩) hS ?_
    try simp only [Act.put, List.getElem_toArray, List.getElem_cons_succ, List.getElem_cons_zero, List.setIfInBounds_toArray, List.set_cons_zero, List.set_cons_succ]
    refine wpAnyH_take (i := 11) (v := .bool false) rfl (by kernel_rfl) (by kernel_rfl) (by kernel_rfl) (fun _ _ _ h => h) (Or.inl ⟨by rfl, fun w' hw' => ?_⟩) hS ?_
    · obtain ⟨y0, y1⟩ := hw'
      go_simp
    try simp only [Act.put, List.getElem_toArray, List.getElem_cons_succ, List.getElem_cons_zero, List.setIfInBounds_toArray, List.set_cons_zero, List.set_cons_succ]
    refine wpAnyH_take (i := 12) (v := .bool false) rfl (by kernel_rfl) (by kernel_rfl) (by kernel_rfl) (fun _ _ _ h => h) (Or.inl ⟨by rfl, fun w' hw' => ?_⟩) hS ?_
    · obtain ⟨y0, y1⟩ := hw'
      go_simp
    try simp only [Act.put, List.getElem_toArray, List.getElem_cons_succ, List.getElem_cons_zero, List.setIfInBounds_toArray, List.set_cons_zero, List.set_cons_succ]
    refine wpAnyH_done (by kernel_rfl) ?_ _
    refine NoPanic.normal ?_
    go_wp2
    go_ret
    exact ⟨by rw [HR.out]; rfl, b1⟩
end Go.Proofs.YtgmeamefbfgbgaaDoor

/-
  Contracts of the document's own answers, layer 4: Make, Label, Within.
-/
namespace Go.Proofs.YtgmeamefbfgbgaaDoor
set_option maxRecDepth 100000
open Go.RowKit

def makeOf (S : List UInt8) (x : Nat) : (List UInt8 × List RunP) × Nat := if S.length ≤ 4096 then ((S, pack (List.replicate S.length x)), 0) else (([], []), 3)

set_option maxHeartbeats 1000000 in
theorem refTMake_any (S : List UInt8) (hS : S.length ≤ maxLen) (x : Nat) (hx : x < 18446744073709551616) (w : World) :
    Calls Tryd.prog 35 #[.string ⟨S.toArray⟩, .int .u64 x] w (GivesT w (makeOf S x)) := by
  unfold maxLen at hS
  by_cases hbig : S.length ≤ 4096
  · have HR : Hid (makeOf S x = ((S, pack (List.replicate S.length x)), 0)) := if_pos hbig
    go_enter Tryd.func35, Tryd.ntmps35
    have Q := Lib.hid (Blk.new w 24 #[.string ⟨#[]⟩, .slice none 0 0])
    have SX : Hid ((w.alloc (.cells #[.string ⟨#[]⟩, .slice none 0 0] 24)).heap.size = w.heap.size + 1) := by show _ = _; simp
    have B0 : Hid (Below w.heap.size w (w.alloc (.cells #[.string ⟨#[]⟩, .slice none 0 0] 24))) := (Below.refl _ w).alloc (Nat.le_refl _) _
    go_wp2_with fail
    go_loopw [6, 7] (fun v i wr => ∃ k : Nat, k ≤ S.length ∧ i = .int .i64 k ∧ wr.ownsRow (w.heap.size + 1) 26 1 v k ((List.replicate k x).map u64v) ∧ Below (w.heap.size + 1) (w.alloc (.cells #[.string ⟨#[]⟩, .slice none 0 0] 24)) wr) (fun _ i _ => S.length - (intOf i).toNat)
    case atStart => exact ⟨0, Nat.zero_le _, rfl, World.ownsRow_nil _ _ _ _, Below.refl _ _⟩
    case round =>
      obtain ⟨k, hk, rfl, hown, hb⟩ := hrel
      have z : w.heap.size + 1 ≤ wr.heap.size := by have := hb.size; rw [SX.out] at this; exact this
      by_cases hlt : k < S.length
      · go_wp2_with (at_builtin; refine wpList_push rfl _ _ _ rfl (w.heap.size + 1) 26 _ 8 elt_label _ _ _ _ rfl hown (.int .u64 (x : Nat)) rfl rfl (by unfold maxLen; omega) (by omega) z ?_; intro v3 w3 hown3 hb3)
        go_roundw
        case rel => exact ⟨k + 1, by omega, by go_num, by rw [List.replicate_succ', List.map_append]; exact hown3, hb.trans hb3⟩
        case measure => simp [intOf]; omega
      · obtain rfl : k = S.length := by omega
        obtain ⟨A1, c1, rfl⟩ := own_form hown
        have Q1 := Q.out.below hb (by omega)
        have b1 := B0.out.trans (hb.mono (by omega))
        go_wp2_with (go_at_call 69; refine (refPack_n A1 c1 wr.heap.size S.length (List.replicate S.length x) List.length_replicate (fun y hy => by rw [(List.mem_replicate.1 hy).2]; exact hx) (by omega) wr (Nat.le_refl _) (Row.of_own hown)).mono ?_; rintro e w2 ⟨A2, c2, rfl, hown2, hb2⟩; obtain ⟨y0, y1, y2, y3⟩ := txt_var (Q1.below hb2 (by omega)))
        have E := givesT_end S rfl 0 (b1.trans (hb2.mono (by omega))) (Q1.below hb2 (by omega)) (Nat.le_refl _) (by omega) hown2
        refine ret_text rfl _ _ w.heap.size _ _ rfl E.1 rfl ?_
        rw [HR.out]
        exact E.2
  · have HR : Hid (makeOf S x = (([], []), 3)) := if_neg hbig
    go_enter Tryd.func35, Tryd.ntmps35
    go_wp2_with fail
    refine ret_text rfl _ _ w.heap.size _ _ rfl (Blk.new _ _ _) rfl ?_
    rw [HR.out]
    exact givesT_nil ((Below.refl _ w).alloc (Nat.le_refl _) _)

def withinT (S : List UInt8) (l : List RunP) (f t : Int) : Bool := goodT S l && (decide (0 ≤ f) && (decide (f ≤ t) && decide (t ≤ (S.length : Int))))
set_option maxHeartbeats 1000000 in
theorem refTWithin_any (A : Option Addr) (c B : Nat) (S : List UInt8) (l : List RunP) (f t : Int) (w : World) (hB : B ≤ w.heap.size) (h : Txt w B A S l) :
    Calls Tryd.prog 70 #[.agg #[.string ⟨S.toArray⟩, .slice A l.length c], .int .i64 f, .int .i64 t] w fun e w' => e = .returned (.bool (withinT S l f t)) ∧ Below w.heap.size w w' := by
  have HH := Lib.hid h
  have hS := h.hS
  unfold maxLen at hS
  clear h
  have Q := Lib.hid (Blk.new w 24 #[.string ⟨S.toArray⟩, .slice A l.length c])
  have SX : Hid ((w.alloc (.cells #[.string ⟨S.toArray⟩, .slice A l.length c] 24)).heap.size = w.heap.size + 1) := by show _ = _; simp
  have B0 : Hid (Below w.heap.size w (w.alloc (.cells #[.string ⟨S.toArray⟩, .slice A l.length c] 24))) := (Below.refl _ w).alloc (Nat.le_refl _) _
  go_enter Tryd.func70, Tryd.ntmps70
  go_wp2_with (go_at_call 20; refine (refTGood_any A c B S l _ (by rw [SX.out]; omega) (HH.out.below (B0.out.mono hB))).mono ?_; rintro e w1 ⟨rfl, hb1⟩; have b1 := B0.out.trans (hb1.mono (by rw [SX.out]; omega)); obtain ⟨y0, y1⟩ := txt_cells (Q.out.below hb1 (by rw [SX.out]; omega)); clear hb1)
  all_goals go_ret
  all_goals refine ⟨?_, b1⟩
  all_goals show Ending.returned (Value.bool _) = _
  all_goals first | (simp [withinT, *]; done) | (simp [withinT, *]; omega)
end Go.Proofs.YtgmeamefbfgbgaaDoor

/-
  Contracts of the document's own answers, layer 4: View, Same, Low.
-/
namespace Go.Proofs.YtgmeamefbfgbgaaDoor
set_option maxRecDepth 100000
open Go.RowKit

theorem elt_byt : Elt Tryd.prog 85 5 (.int .u8 0) 1 1 := ⟨Tryd.underlying85, by kernel_rfl, rfl, by decide⟩
def viewTo (S : List UInt8) (bs : List Nat) (y : Nat) : List UInt8 := (S.zip bs).map fun p => if subB p.2 y = true then p.1 else 35
theorem viewTo_len {S : List UInt8} {bs : List Nat} {y : Nat} (h : bs.length = S.length) : (viewTo S bs y).length = S.length := by unfold viewTo; rw [List.length_map, List.length_zip]; omega
theorem viewTo_succ {S : List UInt8} {bs : List Nat} {y k : Nat} (h : bs.length = S.length) (hk : k < S.length) :
    (viewTo S bs y).take (k + 1) = (viewTo S bs y).take k ++ [if subB (bs[k]'(by omega)) y = true then S[k] else 35] := by
  have hl := viewTo_len (y := y) h
  rw [List.take_succ_eq_append_getElem (by omega)]
  congr 2
  unfold viewTo
  simp
def viewOf (S : List UInt8) (l : List RunP) (y : Nat) : List UInt8 × Nat := if goodT S l = true then (viewTo S (bytesOf l) y, 0) else ([], 2)

set_option maxHeartbeats 1000000 in
theorem refTView_any (A : Option Addr) (c B : Nat) (S : List UInt8) (l : List RunP) (y : Nat) (hy : y < 18446744073709551616) (w : World) (hB : B ≤ w.heap.size) (h : Txt w B A S l) :
    Calls Tryd.prog 31 #[.agg #[.string ⟨S.toArray⟩, .slice A l.length c], .int .u64 y] w fun e w' => e = .returned (.tuple #[.string ⟨(viewOf S l y).1.toArray⟩, .int .i64 ((viewOf S l y).2 : Nat)]) ∧ Below w.heap.size w w' := by
  have HH := Lib.hid h
  have Q := Lib.hid (Blk.new w 24 #[.string ⟨S.toArray⟩, .slice A l.length c])
  have SX : Hid ((w.alloc (.cells #[.string ⟨S.toArray⟩, .slice A l.length c] 24)).heap.size = w.heap.size + 1) := by show _ = _; simp
  have B0 : Hid (Below w.heap.size w (w.alloc (.cells #[.string ⟨S.toArray⟩, .slice A l.length c] 24))) := (Below.refl _ w).alloc (Nat.le_refl _) _
  by_cases hg : goodT S l = true
  · obtain ⟨h1, h2, h3⟩ := goodT_size hg
    have HM := Lib.hid (bytesOf_mem h.hf)
    have HR : Hid (viewOf S l y = (viewTo S (bytesOf l) y, 0)) := if_pos hg
    have H3 := Lib.hid h3
    clear h3 h
    go_enter Tryd.func31, Tryd.ntmps31
    go_wp2_with (first
      | (go_at_call 20; refine (refTGood_any A c B S l _ (by rw [SX.out]; omega) (HH.out.below (B0.out.mono hB))).mono ?_; rintro e w1 ⟨rfl, hb1⟩; rw [hg]; have z1 : w.heap.size + 1 ≤ w1.heap.size := by {have := hb1.size; rw [SX.out] at this; exact this}; have b1 := B0.out.trans (hb1.mono (by rw [SX.out]; omega)); have Q1 := Lib.hid (Q.out.below hb1 (by rw [SX.out]; omega)); obtain ⟨y0, y1⟩ := txt_cells Q1.out; clear hb1)
      | (go_at_call 42; refine (refBytes_any A c B l HH.out.hf HH.out.hl h2 w1 (by omega) (HH.out.row.below (b1.mono hB))).mono ?_; rintro e w2 ⟨A2, c2, rfl, hown2, hb2⟩; have b2 := b1.trans (hb2.mono (by omega)); have z2 := hb2.size; have Q2 := Lib.hid (Q1.out.below hb2 (by omega)); have r2 := Row.of_own hown2; clear y0 y1 hown2))
    generalize bytesOf l = bs at *
    have HV := Lib.hid (viewTo_len (y := y) H3.out)
    go_loopw [7, 8] (fun v i wr => ∃ k : Nat, k ≤ bs.length ∧ i = .int .i64 k ∧ wr.ownsRow w2.heap.size 5 1 v k (((viewTo S bs y).take k).map byt) ∧ Below w2.heap.size w2 wr) (fun _ i _ => bs.length - (intOf i).toNat)
    case atStart => exact ⟨0, Nat.zero_le _, rfl, World.ownsRow_nil _ _ _ _, Below.refl _ _⟩
    case round =>
      obtain ⟨k, hk, rfl, hown, hb⟩ := hrel
      have z := hb.size
      have hle : bs.length ≤ 4096 := by rw [H3.out]; exact h1
      by_cases hlt : k < bs.length
      · have hkS : k < S.length := by rw [← H3.out]; exact hlt
        obtain ⟨ad, rfl, hbl2, hcell⟩ := (r2.below hb).map_at hlt
        have hxk := HM.out bs[k] (List.getElem_mem hlt)
        unfold u64v at hcell
        obtain ⟨x, hx⟩ : ∃ x, bs[k] = x := ⟨_, rfl⟩
        have HX := Lib.hid hx
        rw [hx] at hcell hxk
        clear hx
        by_cases hs : subB x y = true
        · have HS := Lib.hid ((viewTo_succ (y := y) H3.out hkS).trans (by rw [HX.out, if_pos hs]))
          go_wp2_with (first
            | (go_at_call 43; refine (refBelow_any x y hxk hy wr).mono ?_; rintro e w3 ⟨rfl, hb3⟩; rw [hs]; have z3 := hb3.size; have hown3 := own_keep hown hb3 (Nat.le_refl _); obtain ⟨y0, y1⟩ := txt_cells (Q2.out.below (hb.trans (hb3.mono z)) (by omega)))
            | (at_builtin; refine wpList_push rfl _ _ _ rfl w2.heap.size 5 _ 1 elt_byt _ _ _ _ rfl hown3 (byt S[k]) rfl rfl (by unfold maxLen; omega) (by omega) (by omega) ?_; intro v4 w4 hown4 hb4))
          go_roundw
          case rel => exact ⟨k + 1, by omega, by go_num, by rw [HS.out, List.map_append]; exact hown4, (hb.trans (hb3.mono z)).trans hb4⟩
          case measure => simp [intOf]; omega
        · have hs' : subB x y = false := by simpa using hs
          have HS := Lib.hid ((viewTo_succ (y := y) H3.out hkS).trans (by rw [HX.out, if_neg hs]))
          go_wp2_with (first
            | (go_at_call 43; refine (refBelow_any x y hxk hy wr).mono ?_; rintro e w3 ⟨rfl, hb3⟩; rw [hs']; have z3 := hb3.size; have hown3 := own_keep hown hb3 (Nat.le_refl _))
            | (at_builtin; refine wpList_push rfl _ _ _ rfl w2.heap.size 5 _ 1 elt_byt _ _ _ _ rfl hown3 (.int .u8 35) rfl rfl (by unfold maxLen; omega) (by omega) (by omega) ?_; intro v4 w4 hown4 hb4))
          go_roundw
          case rel => exact ⟨k + 1, by omega, by go_num, by rw [HS.out, List.map_append]; exact hown4, (hb.trans (hb3.mono z)).trans hb4⟩
          case measure => simp [intOf]; omega
      · obtain rfl : k = bs.length := by omega
        rw [List.take_of_length_le (by rw [HV.out, H3.out]; omega)] at hown
        obtain ⟨A1, c1, rfl⟩ := own_form hown
        have hcv := str_of_row (P := Tryd.prog) (c := c1) (l := viewTo S bs y) 85 9 5 Tryd.underlying85 Tryd.underlying5 Tryd.underlying9 (Row.of_own hown)
        rw [HV.out, ← H3.out] at hcv
        go_wp2
        go_ret2
        rw [HR.out]
        exact ⟨rfl, b2.trans (hb.mono (by omega))⟩
  · have HR : Hid (viewOf S l y = ([], 2)) := if_neg hg
    have hg' : goodT S l = false := by simpa using hg
    clear hg
    go_enter Tryd.func31, Tryd.ntmps31
    go_wp2_with (go_at_call 20; refine (refTGood_any A c B S l _ (by rw [SX.out]; omega) (HH.out.below (B0.out.mono hB))).mono ?_; rintro e w1 ⟨rfl, hb1⟩; rw [hg'])
    go_ret2
    rw [HR.out]
    exact ⟨rfl, B0.out.trans (hb1.mono (by rw [SX.out]; omega))⟩

set_option maxHeartbeats 1000000 in
theorem refTSame_any (A A2 : Option Addr) (c d B B2 : Nat) (S T : List UInt8) (l m : List RunP) (w : World) (hB : B ≤ w.heap.size) (hB2 : B2 ≤ w.heap.size) (h : Txt w B A S l) (hh : Txt w B2 A2 T m) :
    Calls Tryd.prog 39 #[.agg #[.string ⟨S.toArray⟩, .slice A l.length c], .agg #[.string ⟨T.toArray⟩, .slice A2 m.length d]] w fun e w' => e = .returned (.bool (decide (S = T ∧ l = m))) ∧ Below w.heap.size w w' := by
  have HH := Lib.hid h
  have HH2 := Lib.hid hh
  clear h hh
  have B0 : Hid (Below w.heap.size w ((w.alloc (.cells #[.string ⟨S.toArray⟩, .slice A l.length c] 24)).alloc (.cells #[.string ⟨T.toArray⟩, .slice A2 m.length d] 24))) := ((Below.refl _ w).alloc (Nat.le_refl _) _).alloc (by simp) _
  have SX : Hid (((w.alloc (.cells #[.string ⟨S.toArray⟩, .slice A l.length c] 24)).alloc (.cells #[.string ⟨T.toArray⟩, .slice A2 m.length d] 24)).heap.size = w.heap.size + 2) := by show _ = _; simp
  by_cases hst : S = T
  · subst hst
    have HD : Hid (decide (S = S ∧ l = m) = decide (l = m)) := decide_eq_decide.2 (by simp)
    go_enter Tryd.func39, Tryd.ntmps39
    go_wp2_with (go_at_call 44; refine (refSame_any A A2 c d B B2 l m HH.out.hl HH2.out.hl _ (by rw [SX.out]; omega) (by rw [SX.out]; omega) (HH.out.row.below (B0.out.mono hB)) (HH2.out.row.below (B0.out.mono hB2))).mono ?_; rintro e w1 ⟨rfl, hb1⟩)
    go_ret
    exact ⟨by rw [HD.out]; rfl, B0.out.trans (hb1.mono (by rw [SX.out]; omega))⟩
  · have HD : Hid (decide (S = T ∧ l = m) = false) := decide_eq_false (fun h => hst h.1)
    have ht : (S == T) = false := by simpa using hst
    go_enter Tryd.func39, Tryd.ntmps39
    go_wp2_with fail
    go_ret
    exact ⟨by rw [HD.out]; rfl, B0.out⟩
end Go.Proofs.YtgmeamefbfgbgaaDoor

/-
  Contracts of the document's own answers, layer 4: Low, Cut.
-/
namespace Go.Proofs.YtgmeamefbfgbgaaDoor
set_option maxRecDepth 100000
open Go.RowKit

def lowT (S T : List UInt8) (l m : List RunP) (y : Nat) : Bool := decide (goodT S l = true ∧ goodT T m = true ∧ l = m ∧ viewTo S (bytesOf l) y = viewTo T (bytesOf m) y)

theorem two_boxes (w : World) (T0 T1 : TypeId) (a b c d : Value) :
    Below w.heap.size w ((w.alloc (.cells #[a, b] T0)).alloc (.cells #[c, d] T1)) ∧ ((w.alloc (.cells #[a, b] T0)).alloc (.cells #[c, d] T1)).heap.size = w.heap.size + 2 ∧
    Blk ((w.alloc (.cells #[a, b] T0)).alloc (.cells #[c, d] T1)) w.heap.size T0 #[a, b] ∧ Blk ((w.alloc (.cells #[a, b] T0)).alloc (.cells #[c, d] T1)) (w.heap.size + 1) T1 #[c, d] := by
  have e1 : (w.alloc (.cells #[a, b] T0)).heap.size = w.heap.size + 1 := by simp
  refine ⟨((Below.refl _ w).alloc (Nat.le_refl _) _).alloc (by omega) _, by simp, (Blk.new w T0 #[a, b]).alloc _, ?_⟩
  rw [← e1]; exact Blk.new _ T1 #[c, d]

set_option maxHeartbeats 1000000 in
theorem refTLow_any (A A2 : Option Addr) (c d B B2 : Nat) (S T : List UInt8) (l m : List RunP) (y : Nat) (hy : y < 18446744073709551616) (w : World) (hB : B ≤ w.heap.size) (hB2 : B2 ≤ w.heap.size) (h : Txt w B A S l) (hh : Txt w B2 A2 T m) :
    Calls Tryd.prog 18 #[.agg #[.string ⟨S.toArray⟩, .slice A l.length c], .agg #[.string ⟨T.toArray⟩, .slice A2 m.length d], .int .u64 y] w fun e w' => e = .returned (.bool (lowT S T l m y)) ∧ Below w.heap.size w w' := by
  have HH := Lib.hid h
  have HH2 := Lib.hid hh
  clear h hh
  have Q := Lib.hid (two_boxes w 24 24 (.string ⟨S.toArray⟩) (.slice A l.length c) (.string ⟨T.toArray⟩) (.slice A2 m.length d))
  obtain ⟨p, hp⟩ : ∃ p, viewOf S l y = p := ⟨_, rfl⟩
  obtain ⟨q, hq⟩ : ∃ q, viewOf T m y = q := ⟨_, rfl⟩
  have HP := Lib.hid hp
  have HQ := Lib.hid hq
  clear hp hq
  obtain ⟨V, n⟩ := p
  obtain ⟨U, k⟩ := q
  have N1 : Hid ((n = 0 ↔ goodT S l = true) ∧ (n = 0 → V = viewTo S (bytesOf l) y)) := by
    have := HP.out
    unfold viewOf at this
    show _ ∧ _
    by_cases hg : goodT S l = true
    · rw [if_pos hg] at this; injection this with a b; subst a b; exact ⟨by simp [hg], fun _ => rfl⟩
    · rw [if_neg hg] at this; injection this with a b; subst a b; exact ⟨by simp [hg], fun h => by simp at h⟩
  have N2 : Hid ((k = 0 ↔ goodT T m = true) ∧ (k = 0 → U = viewTo T (bytesOf m) y)) := by
    have := HQ.out
    unfold viewOf at this
    show _ ∧ _
    by_cases hg : goodT T m = true
    · rw [if_pos hg] at this; injection this with a b; subst a b; exact ⟨by simp [hg], fun _ => rfl⟩
    · rw [if_neg hg] at this; injection this with a b; subst a b; exact ⟨by simp [hg], fun h => by simp at h⟩
  have LT : Hid (lowT S T l m y = decide (n = 0 ∧ k = 0 ∧ l = m ∧ V = U)) := by
    show _ = _
    unfold lowT
    refine decide_eq_decide.2 ⟨fun ⟨a, b, c, d⟩ => ⟨N1.out.1.2 a, N2.out.1.2 b, c, by rw [N1.out.2 (N1.out.1.2 a), N2.out.2 (N2.out.1.2 b)]; exact d⟩, fun ⟨a, b, c, d⟩ => ⟨N1.out.1.1 a, N2.out.1.1 b, c, by rw [← N1.out.2 a, ← N2.out.2 b]; exact d⟩⟩
  clear N1 N2
  go_enter Tryd.func18, Tryd.ntmps18
  go_wp2_with fail
  refine (refTView_any A c B S l y hy _ (by rw [Q.out.2.1]; omega) (HH.out.below (Q.out.1.mono hB))).mono ?_
  rw [HP.out]
  rintro e w1 ⟨rfl, hb1⟩
  have z1 : w.heap.size + 2 ≤ w1.heap.size := by have := hb1.size; rw [Q.out.2.1] at this; exact this
  have b1 := Q.out.1.trans (hb1.mono (by rw [Q.out.2.1]; omega))
  have Q1 := Lib.hid (Q.out.2.2.1.below hb1 (by rw [Q.out.2.1]; omega))
  have R1 := Lib.hid (Q.out.2.2.2.below hb1 (by rw [Q.out.2.1]; omega))
  obtain ⟨x2, x3⟩ := txt_cells R1.out
  dsimp only
  clear hb1 Q
  go_wp2_with fail
  refine (refTView_any A2 d B2 T m y hy w1 (by omega) (HH2.out.below (b1.mono hB2))).mono ?_
  rw [HQ.out]
  rintro e w2 ⟨rfl, hb2⟩
  have z2 := hb2.size
  have b2 := b1.trans (hb2.mono (by omega))
  clear x2 x3
  obtain ⟨x0, x1⟩ := txt_cells (Q1.out.below hb2 (by omega))
  obtain ⟨x2, x3⟩ := txt_cells (R1.out.below hb2 (by omega))
  dsimp only
  clear hb2 Q1 R1
  by_cases h1 : n = 0
  · subst h1
    by_cases h2 : k = 0
    · subst h2
      by_cases h3 : l = m
      · by_cases h4 : V = U
        · have HD : Hid (decide (0 = 0 ∧ 0 = 0 ∧ l = m ∧ V = U) = true) := decide_eq_true ⟨rfl, rfl, h3, h4⟩
          have H3 := Lib.hid h3
          clear h3
          subst h4
          go_wp2_with (go_at_call 44; refine (refSame_any A A2 c d B B2 l m HH.out.hl HH2.out.hl w2 (by omega) (by omega) (HH.out.row.below (b2.mono hB)) (HH2.out.row.below (b2.mono hB2))).mono ?_; rintro e w3 ⟨rfl, hb3⟩; rw [decide_eq_true H3.out])
          go_ret
          exact ⟨by rw [LT.out, HD.out]; rfl, b2.trans (hb3.mono (by omega))⟩
        · have HD : Hid (decide (0 = 0 ∧ 0 = 0 ∧ l = m ∧ V = U) = false) := decide_eq_false (fun h => h4 h.2.2.2)
          have H3 := Lib.hid h3
          clear h3
          have ht : (V == U) = false := by simpa using h4
          go_wp2_with (go_at_call 44; refine (refSame_any A A2 c d B B2 l m HH.out.hl HH2.out.hl w2 (by omega) (by omega) (HH.out.row.below (b2.mono hB)) (HH2.out.row.below (b2.mono hB2))).mono ?_; rintro e w3 ⟨rfl, hb3⟩; rw [decide_eq_true H3.out])
          go_ret
          exact ⟨by rw [LT.out, HD.out]; rfl, b2.trans (hb3.mono (by omega))⟩
      · have HD : Hid (decide (0 = 0 ∧ 0 = 0 ∧ l = m ∧ V = U) = false) := decide_eq_false (fun h => h3 h.2.2.1)
        have H3 := Lib.hid h3
        clear h3
        go_wp2_with (go_at_call 44; refine (refSame_any A A2 c d B B2 l m HH.out.hl HH2.out.hl w2 (by omega) (by omega) (HH.out.row.below (b2.mono hB)) (HH2.out.row.below (b2.mono hB2))).mono ?_; rintro e w3 ⟨rfl, hb3⟩; rw [decide_eq_false H3.out])
        go_ret
        exact ⟨by rw [LT.out, HD.out]; rfl, b2.trans (hb3.mono (by omega))⟩
    · have HD : Hid (decide (0 = 0 ∧ k = 0 ∧ l = m ∧ V = U) = false) := decide_eq_false (fun h => h2 h.2.1)
      have ht : ((k : Int) == 0) = false := by simp; omega
      clear h2
      go_wp2_with fail
      go_ret
      exact ⟨by rw [LT.out, HD.out]; rfl, b2⟩
  · have HD : Hid (decide (n = 0 ∧ k = 0 ∧ l = m ∧ V = U) = false) := decide_eq_false (fun h => h1 h.1)
    have ht : ((n : Int) == 0) = false := by simp; omega
    clear h1
    go_wp2_with fail
    go_ret
    exact ⟨by rw [LT.out, HD.out]; rfl, b2⟩
end Go.Proofs.YtgmeamefbfgbgaaDoor

/-
  Contracts of the document's own answers, layer 4: Cut.
-/
namespace Go.Proofs.YtgmeamefbfgbgaaDoor
set_option maxRecDepth 100000
open Go.RowKit

def cutOf (S : List UInt8) (l : List RunP) (f t : Int) : (List UInt8 × List RunP) × Nat :=
  if withinT S l f t = true then (((S.drop f.toNat).take (t - f).toNat, pack (cut (bytesOf l) f t)), 0) else (([], []), 2)
theorem withinT_of {S : List UInt8} {l : List RunP} {f t : Int} (h : withinT S l f t = true) : goodT S l = true ∧ 0 ≤ f ∧ f ≤ t ∧ t ≤ (S.length : Int) := by
  unfold withinT at h; simpa using h
theorem row_cut2 {w : World} {base e n c : Nat} {A : Option Addr} {b : List Nat} (h : w.ownsRow base e 1 (.slice A n c) n (b.map u64v)) (hn : n = b.length) (F T : Nat) (hFT : F ≤ T) (hT : T ≤ n) :
    Row w w.heap.size (if c = F then A else Option.map (fun x => x.add F) A) ((cut b F T).map u64v) := by
  have hcap := own_cap h
  by_cases hc : c = F
  · rw [if_pos hc]
    refine .inl ?_
    have : (cut b F T).length = 0 := by have := cut_len (b := b) (f := F) (t := T) (by omega) (by omega) (by omega); omega
    rw [List.eq_nil_of_length_eq_zero this]; rfl
  · rw [if_neg hc]
    have := row_own_cut h (F : Int) (T : Int) (by omega)
    rw [Int.toNat_natCast] at this
    exact this
/-- a text's box and the answer's variable -/
theorem box_and_var (w : World) (T0 T1 : TypeId) (a b : Value) :
    Below w.heap.size w ((w.alloc (.cells #[a, b] T0)).alloc (.cells #[.string ⟨#[]⟩, .slice none 0 0] T1)) ∧ ((w.alloc (.cells #[a, b] T0)).alloc (.cells #[.string ⟨#[]⟩, .slice none 0 0] T1)).heap.size = w.heap.size + 2 ∧
    Blk ((w.alloc (.cells #[a, b] T0)).alloc (.cells #[.string ⟨#[]⟩, .slice none 0 0] T1)) w.heap.size T0 #[a, b] ∧ Blk ((w.alloc (.cells #[a, b] T0)).alloc (.cells #[.string ⟨#[]⟩, .slice none 0 0] T1)) (w.heap.size + 1) T1 #[.string ⟨#[]⟩, .slice none 0 0] := two_boxes w T0 T1 a b _ _

set_option maxHeartbeats 1000000 in
theorem refTCut_any (A : Option Addr) (c B : Nat) (S : List UInt8) (l : List RunP) (f t : Int) (w : World) (hB : B ≤ w.heap.size) (h : Txt w B A S l) :
    Calls Tryd.prog 36 #[.agg #[.string ⟨S.toArray⟩, .slice A l.length c], .int .i64 f, .int .i64 t] w (GivesT w (cutOf S l f t)) := by
  have HH := Lib.hid h
  clear h
  have Q := Lib.hid (box_and_var w 24 24 (.string ⟨S.toArray⟩) (.slice A l.length c))
  by_cases hw : withinT S l f t = true
  · have HR : Hid (cutOf S l f t = _) := if_pos hw
    obtain ⟨hg, h0, h1, h2⟩ := withinT_of hw
    obtain ⟨g1, g2, g3⟩ := goodT_size hg
    have HM := Lib.hid (bytesOf_mem HH.out.hf)
    obtain ⟨F, rfl⟩ : ∃ F : Nat, f = (F : Int) := ⟨f.toNat, by omega⟩
    obtain ⟨T, rfl⟩ : ∃ T : Nat, t = (T : Int) := ⟨t.toNat, by omega⟩
    rw [Int.toNat_natCast, show ((T : Int) - (F : Int)).toNat = T - F by omega] at HR
    have G3 := Lib.hid g3
    have hTb : T ≤ (bytesOf l).length := by omega
    have HC := Lib.hid (cut_len (b := bytesOf l) (f := F) (t := T) (by omega) h1 (by omega))
    have HX := Lib.hid (text_cut S F T)
    clear g3
    go_enter Tryd.func36, Tryd.ntmps36
    go_wp2_with (first
      | (go_at_call 70; refine (refTWithin_any A c B S l (F : Int) (T : Int) _ (by rw [Q.out.2.1]; omega) (HH.out.below (Q.out.1.mono hB))).mono ?_; rintro e w1 ⟨rfl, hb1⟩; rw [hw]; have z1 : w.heap.size + 2 ≤ w1.heap.size := by {have := hb1.size; rw [Q.out.2.1] at this; exact this}; have b1 := Q.out.1.trans (hb1.mono (by rw [Q.out.2.1]; omega)); have Q1 := Lib.hid (Q.out.2.2.1.below hb1 (by rw [Q.out.2.1]; omega)); have R1 := Lib.hid (Q.out.2.2.2.below hb1 (by rw [Q.out.2.1]; omega)); obtain ⟨y0, y1⟩ := txt_cells Q1.out; clear hb1)
      | (go_at_call 42; refine (refBytes_any A c B l HH.out.hf HH.out.hl g2 w1 (by omega) (HH.out.row.below (b1.mono hB))).mono ?_; rintro e w2 ⟨A2, c2, rfl, hown2, hb2⟩; have b2 := b1.trans (hb2.mono (by omega)); have z2 := hb2.size; have Q2 := Lib.hid ((Q1.out.below hb2 (by omega)).drewN 1); have R2 := Lib.hid ((R1.out.below hb2 (by omega)).drewN 1); clear y0 y1))
    have hcap := own_cap hown2
    have M2 := Lib.hid ((row_cut2 hown2 rfl F T (by omega) hTb).drewN 1)
    have K2 := Lib.hid (txt_cells Q2.out)
    have x1 : (0 : Int) ≤ (F : Int) := by omega
    have x2 : (F : Int) ≤ (T : Int) := by omega
    have x3 : (T : Int) ≤ (c2 : Int) := by omega
    have x4 : (T : Int) ≤ (S.length : Int) := by omega
    have x5 : (F : Int) ≤ (c2 : Int) := by omega
    generalize bytesOf l = bs at *
    have L1 : Hid ((cut bs F T).length = T - F) := by have := HC.out; show _ = _; omega
    have ML : Hid (∀ x ∈ cut bs F T, x < 18446744073709551616) := cut_mem HM.out
    generalize cut bs F T = cb at *
    by_cases hcF : c2 = F
    · obtain rfl : F = c2 := hcF.symm
      obtain rfl : T = F := by omega
      rw [if_pos rfl] at M2
      have HX0 : Hid (ByteArray.empty = ⟨((S.drop T).take (T - T)).toArray⟩) := by show _ = _; rw [Nat.sub_self]; rfl
      have L0 : Hid (cb.length = 0) := by show _ = _; rw [L1.out]; omega
      go_region_held3 (fun w' => w'.cell? ⟨w.heap.size, 0, none⟩ = some (.string ⟨S.toArray⟩))
        (first
          | exact K2.out.1
          | exact K3.out
          | exact K4.out)
        (first
          | (go_at_call 69; refine (refPack_n _ _ w2.heap.size 0 cb L0.out ML.out (by omega) w2.drew (Nat.le_refl _) M2.out).mono ?_; rintro e w3 ⟨A3, c3, rfl, hown3, hb3⟩; have z3 : w2.heap.size ≤ w3.heap.size := hb3.size; have Q3 := Lib.hid (Q2.out.below hb3 (by show w.heap.size < w2.heap.size; omega)); have R3 := Lib.hid (R2.out.below hb3 (by show w.heap.size + 1 < w2.heap.size; omega)); have K3 : Hid (w3.cell? ⟨w.heap.size, 0, none⟩ = some (.string ⟨S.toArray⟩)) := (txt_cells Q3.out).1; obtain ⟨y0, y1, y2, y3⟩ := txt_var R3.out; have b3 := (below_drewN b2 1).trans (hb3.mono (by show w.heap.size ≤ w2.heap.size; omega)); have hown3' : w3.ownsRow w2.heap.size 51 2 (.slice A3 (pack cb).length c3) (pack cb).length (flatR (pack cb)) := hown3; have E := givesT_end ((S.drop T).take (T - T)) HX0.out 0 b3 R3.out (by omega) (by omega) hown3'; have K4 : Hid (((w3.setCell ⟨w.heap.size + 1, 0, none⟩ (.string ByteArray.empty)).setCell ⟨w.heap.size + 1, 1, none⟩ (.slice A3 (pack cb).length c3)).cell? ⟨w.heap.size, 0, none⟩ = some (.string ⟨S.toArray⟩)) := (txt_cells ((Q3.out.far (p := ⟨w.heap.size + 1, 0, none⟩) (by show w.heap.size ≠ w.heap.size + 1; omega) _).far (p := ⟨w.heap.size + 1, 1, none⟩) (by show w.heap.size ≠ w.heap.size + 1; omega) _)).1; have EE := Lib.hid E; clear E hown3 hb3))
      go_wp2
      refine ret_text rfl _ _ (w.heap.size + 1) _ _ rfl EE.out.1 rfl ?_
      rw [HR.out]
      exact EE.out.2
    · rw [if_neg hcF] at M2
      go_region_held3 (fun w' => w'.cell? ⟨w.heap.size, 0, none⟩ = some (.string ⟨S.toArray⟩))
        (first
          | exact K2.out.1
          | exact K3.out
          | exact K4.out)
        (first
          | (go_at_call 69; refine (refPack_n _ _ w2.heap.size (T - F) cb L1.out ML.out (by omega) w2.drew (Nat.le_refl _) M2.out).mono ?_; rintro e w3 ⟨A3, c3, rfl, hown3, hb3⟩; have z3 : w2.heap.size ≤ w3.heap.size := hb3.size; have Q3 := Lib.hid (Q2.out.below hb3 (by show w.heap.size < w2.heap.size; omega)); have R3 := Lib.hid (R2.out.below hb3 (by show w.heap.size + 1 < w2.heap.size; omega)); have K3 : Hid (w3.cell? ⟨w.heap.size, 0, none⟩ = some (.string ⟨S.toArray⟩)) := (txt_cells Q3.out).1; obtain ⟨y0, y1, y2, y3⟩ := txt_var R3.out; have b3 := (below_drewN b2 1).trans (hb3.mono (by show w.heap.size ≤ w2.heap.size; omega)); have hown3' : w3.ownsRow w2.heap.size 51 2 (.slice A3 (pack cb).length c3) (pack cb).length (flatR (pack cb)) := hown3; have E := givesT_end ((S.drop F).take (T - F)) HX.out 0 b3 R3.out (by omega) (by omega) hown3'; have K4 : Hid (((w3.setCell ⟨w.heap.size + 1, 0, none⟩ (.string (({ data := S.toArray } : ByteArray).extract F T))).setCell ⟨w.heap.size + 1, 1, none⟩ (.slice A3 (pack cb).length c3)).cell? ⟨w.heap.size, 0, none⟩ = some (.string ⟨S.toArray⟩)) := (txt_cells ((Q3.out.far (p := ⟨w.heap.size + 1, 0, none⟩) (by show w.heap.size ≠ w.heap.size + 1; omega) _).far (p := ⟨w.heap.size + 1, 1, none⟩) (by show w.heap.size ≠ w.heap.size + 1; omega) _)).1; have EE := Lib.hid E; clear E hown3 hb3))
      go_wp2
      refine ret_text rfl _ _ (w.heap.size + 1) _ _ rfl EE.out.1 rfl ?_
      rw [HR.out]
      exact EE.out.2
  · have HR : Hid (cutOf S l f t = (([], []), 2)) := if_neg hw
    have hw' : withinT S l f t = false := by simpa using hw
    clear hw
    go_enter Tryd.func36, Tryd.ntmps36
    go_wp2_with (go_at_call 70; refine (refTWithin_any A c B S l f t _ (by rw [Q.out.2.1]; omega) (HH.out.below (Q.out.1.mono hB))).mono ?_; rintro e w1 ⟨rfl, hb1⟩; rw [hw']; have b1 := Q.out.1.trans (hb1.mono (by rw [Q.out.2.1]; omega)); have R1 := Lib.hid (Q.out.2.2.2.below hb1 (by rw [Q.out.2.1]; omega)); obtain ⟨y0, y1, y2, y3⟩ := txt_var R1.out; clear hb1)
    have E := givesT_end (l := []) [] rfl 2 b1 R1.out (by omega) (Nat.lt_succ_self _) (World.ownsRow_nil _ _ _ _)
    refine ret_text rfl _ _ (w.heap.size + 1) _ _ rfl E.1 rfl ?_
    rw [HR.out]
    exact E.2
end Go.Proofs.YtgmeamefbfgbgaaDoor

/-
  Contracts of the document's own answers, layer 4: Raise.
-/
namespace Go.Proofs.YtgmeamefbfgbgaaDoor
set_option maxRecDepth 100000
open Go.RowKit

def raiseT (S : List UInt8) (l : List RunP) (y : Nat) : (List UInt8 × List RunP) × Nat := if goodT S l = true then ((S, pack ((bytesOf l).map fun x => x ||| y)), 0) else (([], []), 2)
theorem raiseTo_all (b : List Nat) (y : Nat) : raiseTo b 0 b.length y = b.map fun x => x ||| y := by
  unfold raiseTo cut
  simp

end Go.Proofs.YtgmeamefbfgbgaaDoor

/-
  Contracts of the document's own answers, layer 4: Splice.
-/
namespace Go.Proofs.YtgmeamefbfgbgaaDoor
set_option maxRecDepth 100000
open Go.RowKit

def spliceT (S : List UInt8) (l : List RunP) (f t : Int) (X : List UInt8) (m : List RunP) : (List UInt8 × List RunP) × Nat :=
  if withinT S l f t = true ∧ goodT X m = true then
    (if (S.length : Int) - (t - f) + (X.length : Int) ≤ 4096 then ((S.take f.toNat ++ X ++ S.drop t.toNat, pack ((bytesOf l).take f.toNat ++ bytesOf m ++ (bytesOf l).drop t.toNat)), 0) else (([], []), 3))
  else (([], []), 2)
theorem spliceT_bad {S X : List UInt8} {l m : List RunP} {f t : Int} (h : ¬ (withinT S l f t = true ∧ goodT X m = true)) : spliceT S l f t X m = (([], []), 2) := if_neg h
theorem spliceT_big {S X : List UInt8} {l m : List RunP} {f t : Int} (h1 : withinT S l f t = true) (h2 : goodT X m = true) (h : ¬ (S.length : Int) - (t - f) + (X.length : Int) ≤ 4096) : spliceT S l f t X m = (([], []), 3) := by unfold spliceT; rw [if_pos ⟨h1, h2⟩, if_neg h]
theorem spliceT_ok {S X : List UInt8} {l m : List RunP} {f t : Int} (h1 : withinT S l f t = true) (h2 : goodT X m = true) (h : (S.length : Int) - (t - f) + (X.length : Int) ≤ 4096) :
    spliceT S l f t X m = ((S.take f.toNat ++ X ++ S.drop t.toNat, pack ((bytesOf l).take f.toNat ++ bytesOf m ++ (bytesOf l).drop t.toNat)), 0) := by unfold spliceT; rw [if_pos ⟨h1, h2⟩, if_pos h]

theorem text_splice (S X : List UInt8) (F T : Nat) : (({ data := S.toArray } : ByteArray).extract 0 F ++ { data := X.toArray } ++ ({ data := S.toArray } : ByteArray).extract T S.length) = ⟨(S.take F ++ X ++ S.drop T).toArray⟩ := by
  rw [text_cut, text_cut]
  apply ByteArray.ext
  simp [ByteArray.data_append, List.take_of_length_le]
theorem three_boxes (w : World) (T0 T1 T2 : TypeId) (a b c d : Value) :
    Below w.heap.size w (((w.alloc (.cells #[a, b] T0)).alloc (.cells #[c, d] T1)).alloc (.cells #[.string ⟨#[]⟩, .slice none 0 0] T2)) ∧ (((w.alloc (.cells #[a, b] T0)).alloc (.cells #[c, d] T1)).alloc (.cells #[.string ⟨#[]⟩, .slice none 0 0] T2)).heap.size = w.heap.size + 3 ∧
    Blk (((w.alloc (.cells #[a, b] T0)).alloc (.cells #[c, d] T1)).alloc (.cells #[.string ⟨#[]⟩, .slice none 0 0] T2)) w.heap.size T0 #[a, b] ∧ Blk (((w.alloc (.cells #[a, b] T0)).alloc (.cells #[c, d] T1)).alloc (.cells #[.string ⟨#[]⟩, .slice none 0 0] T2)) (w.heap.size + 1) T1 #[c, d] ∧
    Blk (((w.alloc (.cells #[a, b] T0)).alloc (.cells #[c, d] T1)).alloc (.cells #[.string ⟨#[]⟩, .slice none 0 0] T2)) (w.heap.size + 1 + 1) T2 #[.string ⟨#[]⟩, .slice none 0 0] := by
  obtain ⟨h1, h2, h3, h4⟩ := two_boxes w T0 T1 a b c d
  have e : ((w.alloc (.cells #[a, b] T0)).alloc (.cells #[c, d] T1)).heap.size = w.heap.size + 1 + 1 := by rw [h2]
  refine ⟨h1.alloc (by omega) _, by simp, h3.alloc _, h4.alloc _, ?_⟩
  rw [← e]; exact Blk.new _ _ _

set_option maxHeartbeats 2000000 in
theorem refTSplice_any (A A2 : Option Addr) (c d B B2 : Nat) (S X : List UInt8) (l m : List RunP) (f t : Int) (w : World) (hB : B ≤ w.heap.size) (hB2 : B2 ≤ w.heap.size) (h : Txt w B A S l) (hh : Txt w B2 A2 X m) :
    Calls Tryd.prog 41 #[.agg #[.string ⟨S.toArray⟩, .slice A l.length c], .int .i64 f, .int .i64 t, .agg #[.string ⟨X.toArray⟩, .slice A2 m.length d]] w (GivesT w (spliceT S l f t X m)) := by
  have HH := Lib.hid h
  have HH2 := Lib.hid hh
  have hS0 := h.hS
  have hX0 := hh.hS
  unfold maxLen at hS0 hX0
  clear h hh
  have Q := Lib.hid (three_boxes w 24 24 24 (.string ⟨S.toArray⟩) (.slice A l.length c) (.string ⟨X.toArray⟩) (.slice A2 m.length d))
  by_cases hw : withinT S l f t = true
  · obtain ⟨hg, h0, h1, h2⟩ := withinT_of hw
    obtain ⟨g1, g2, g3⟩ := goodT_size hg
    by_cases hg2 : goodT X m = true
    · obtain ⟨k1, k2, k3⟩ := goodT_size hg2
      by_cases hbig : (S.length : Int) - (t - f) + (X.length : Int) ≤ 4096
      · have HR := Lib.hid (spliceT_ok hw hg2 hbig)
        obtain ⟨F, rfl⟩ : ∃ F : Nat, f = (F : Int) := ⟨f.toNat, by omega⟩
        obtain ⟨T, rfl⟩ : ∃ T : Nat, t = (T : Int) := ⟨t.toNat, by omega⟩
        rw [Int.toNat_natCast, Int.toNat_natCast] at HR
        have HM := Lib.hid (bytesOf_mem HH.out.hf)
        have HM2 := Lib.hid (bytesOf_mem HH2.out.hf)
        have hTb : T ≤ (bytesOf l).length := by omega
        have hlb : (bytesOf l).length ≤ 4096 := by omega
        have hlm : (bytesOf m).length ≤ 4096 := by omega
        have hFT : F ≤ T := by omega
        have hTS : T ≤ S.length := by omega
        clear g3 k3
        go_enter Tryd.func41, Tryd.ntmps41
        go_wp2_with (first
          | (go_at_call 70; refine (refTWithin_any A c B S l (F : Int) (T : Int) _ (by rw [Q.out.2.1]; omega) (HH.out.below (Q.out.1.mono hB))).mono ?_; rintro e w1 ⟨rfl, hb1⟩; rw [hw]; have z1 : w.heap.size + 3 ≤ w1.heap.size := by {have := hb1.size; rw [Q.out.2.1] at this; exact this}; have b1 := Q.out.1.trans (hb1.mono (by rw [Q.out.2.1]; omega)); have Q1 := Lib.hid (Q.out.2.2.1.below hb1 (by rw [Q.out.2.1]; omega)); have P1 := Lib.hid (Q.out.2.2.2.1.below hb1 (by rw [Q.out.2.1]; omega)); have R1 := Lib.hid (Q.out.2.2.2.2.below hb1 (by rw [Q.out.2.1]; omega)); obtain ⟨y0, y1⟩ := txt_cells Q1.out; obtain ⟨y2, y3⟩ := txt_cells P1.out; clear hb1)
          | (go_at_call 20; refine (refTGood_any A2 d B2 X m w1 (by omega) (HH2.out.below (b1.mono hB2))).mono ?_; rintro e w2 ⟨rfl, hb2⟩; rw [hg2]; have z2 := hb2.size; have b2 := b1.trans (hb2.mono (by omega)); have Q2 := Lib.hid (Q1.out.below hb2 (by omega)); have P2 := Lib.hid (P1.out.below hb2 (by omega)); have R2 := Lib.hid (R1.out.below hb2 (by omega)); clear y0 y1 y2 y3; obtain ⟨y0, y1⟩ := txt_cells Q2.out; obtain ⟨y2, y3⟩ := txt_cells P2.out; clear hb2)
          | (go_at_call_of 42 l; refine (refBytes_any A c B l HH.out.hf HH.out.hl g2 w2 (by omega) (HH.out.row.below (b2.mono hB))).mono ?_; rintro e w3 ⟨A3, c3, rfl, hown3, hb3⟩; have z3 := hb3.size; have b3 := b2.trans (hb3.mono (by omega)); have Q3 := Lib.hid (Q2.out.below hb3 (by omega)); have P3 := Lib.hid (P2.out.below hb3 (by omega)); have R3 := Lib.hid (R2.out.below hb3 (by omega)); clear y0 y1 y2 y3; obtain ⟨y0, y1⟩ := txt_cells Q3.out; obtain ⟨y2, y3⟩ := txt_cells P3.out; clear hb3)
          | (go_at_call_of 42 m; refine (refBytes_any A2 d B2 m HH2.out.hf HH2.out.hl k2 w3 (by omega) (HH2.out.row.below (b3.mono hB2))).mono ?_; rintro e w4 ⟨A4, c4, rfl, hown4, hb4⟩; have z4 := hb4.size; have b4 := b3.trans (hb4.mono (by omega)); have Q4 := Lib.hid (Q3.out.below hb4 (by omega)); have P4 := Lib.hid (P3.out.below hb4 (by omega)); have R4 := Lib.hid (R3.out.below hb4 (by omega)); have r3 := (Row.of_own hown3).below hb4; have r4 := Row.of_own hown4; clear y0 y1 y2 y3 hown3 hown4 hb4))
        generalize bytesOf l = b at *
        generalize bytesOf m = e at *
        go_loopw [12, 13] (fun v i wr => ∃ k : Nat, k ≤ F ∧ i = .int .i64 k ∧ wr.ownsRow w4.heap.size 26 1 v k ((b.take k).map u64v) ∧ Below w4.heap.size w4 wr) (fun _ i _ => F - (intOf i).toNat)
        case atStart => exact ⟨0, Nat.zero_le _, rfl, World.ownsRow_nil _ _ _ _, Below.refl _ _⟩
        case round =>
          obtain ⟨k, hk, rfl, hown, hb⟩ := hrel
          have z := hb.size
          by_cases hlt : k < F
          · have hkb : k < b.length := by omega
            obtain ⟨ad, rfl, hbl, hcell⟩ := (r3.below (hb.mono z4)).map_at hkb
            have HS : Hid (b.take (k + 1) = b.take k ++ [b[k]]) := List.take_succ_eq_append_getElem hkb
            unfold u64v at hcell
            generalize b[k] = x at *
            go_wp2_with (at_builtin; refine wpList_push rfl _ _ _ rfl w4.heap.size 26 _ 8 elt_label _ _ _ _ rfl hown (.int .u64 (x : Nat)) rfl rfl (by unfold maxLen; omega) (by omega) z ?_; intro v5 w5 hown5 hb5)
            go_roundw
            case rel => exact ⟨k + 1, by omega, by go_num, by rw [HS.out, List.map_append]; exact hown5, hb.trans hb5⟩
            case measure => simp [intOf]; omega
          · obtain rfl : k = F := by omega
            go_wp2_with fail
            go_loopw [12, 14] (fun v i wr => ∃ j : Nat, j ≤ e.length ∧ i = .int .i64 j ∧ wr.ownsRow w4.heap.size 26 1 v (k + j) ((b.take k ++ e.take j).map u64v) ∧ Below w4.heap.size w4 wr) (fun _ i _ => e.length - (intOf i).toNat)
            case atStart => exact ⟨0, Nat.zero_le _, rfl, by simpa using hown, hb⟩
            case round =>
              clear hown hb z
              obtain ⟨j, hj, rfl, hown, hb⟩ := hrel
              have z := hb.size
              by_cases hlt2 : j < e.length
              · obtain ⟨ad, rfl, hbl, hcell⟩ := (r4.below hb).map_at hlt2
                have HS : Hid (b.take k ++ e.take (j + 1) = (b.take k ++ e.take j) ++ [e[j]]) := by show _ = _; rw [List.take_succ_eq_append_getElem hlt2, List.append_assoc]
                unfold u64v at hcell
                generalize e[j] = x at *
                go_wp2_with (at_builtin; refine wpList_push rfl _ _ _ rfl w4.heap.size 26 _ 8 elt_label _ _ _ _ rfl hown (.int .u64 (x : Nat)) rfl rfl (by unfold maxLen; omega) (by omega) z ?_; intro v5 w5 hown5 hb5)
                go_roundw
                case rel => exact ⟨j + 1, by omega, by go_num, by rw [HS.out, List.map_append, ← Nat.add_assoc]; exact hown5, hb.trans hb5⟩
                case measure => simp [intOf]; omega
              · obtain rfl : j = e.length := by omega
                rw [List.take_length] at hown
                go_wp2_with fail
                go_loopw [12, 15] (fun v i wr => ∃ q : Nat, T ≤ q ∧ q ≤ b.length ∧ i = .int .i64 q ∧ wr.ownsRow w4.heap.size 26 1 v (k + e.length + (q - T)) ((b.take k ++ e ++ (b.drop T).take (q - T)).map u64v) ∧ Below w4.heap.size w4 wr) (fun _ i _ => b.length - (intOf i).toNat)
                case atStart => exact ⟨T, Nat.le_refl _, hTb, rfl, by simpa using hown, hb⟩
                case round =>
                  clear hown hb z
                  obtain ⟨q, hTq, hq, rfl, hown, hb⟩ := hrel
                  have z := hb.size
                  by_cases hlt3 : q < b.length
                  · obtain ⟨ad, rfl, hbl, hcell⟩ := (r3.below (hb.mono z4)).map_at hlt3
                    have HS : Hid (b.take k ++ e ++ (b.drop T).take (q + 1 - T) = (b.take k ++ e ++ (b.drop T).take (q - T)) ++ [b[q]]) := by
                      show _ = _
                      have hl : q - T < (b.drop T).length := by rw [List.length_drop]; omega
                      have hx : (b.drop T)[q - T]'hl = b[q] := by
                        rw [List.getElem_drop]
                        have : T + (q - T) = q := by omega
                        simp only [this]
                      rw [show q + 1 - T = (q - T) + 1 by omega, List.take_succ_eq_append_getElem hl, ← List.append_assoc, hx]
                    have HN : Hid (k + e.length + (q + 1 - T) = k + e.length + (q - T) + 1) := by show _ = _; omega
                    unfold u64v at hcell
                    generalize b[q] = x at *
                    go_wp2_with (at_builtin; refine wpList_push rfl _ _ _ rfl w4.heap.size 26 _ 8 elt_label _ _ _ _ rfl hown (.int .u64 (x : Nat)) rfl rfl (by unfold maxLen; omega) (by omega) z ?_; intro v5 w5 hown5 hb5)
                    go_roundw
                    case rel => exact ⟨q + 1, by omega, by omega, by go_num, by rw [HS.out, HN.out, List.map_append]; exact hown5, hb.trans hb5⟩
                    case measure => simp [intOf]; omega
                  · obtain rfl : q = b.length := by omega
                    rw [show (b.drop T).take (b.length - T) = b.drop T from List.take_of_length_le (by rw [List.length_drop]; omega)] at hown
                    obtain ⟨A5, c5, rfl⟩ := own_form hown
                    have Q5 := Lib.hid ((Q4.out.below hb (by omega)).drewN 1)
                    have P5 := Lib.hid ((P4.out.below hb (by omega)).drewN 1)
                    have R5 := Lib.hid ((R4.out.below hb (by omega)).drewN 1)
                    have K5 := Lib.hid (And.intro (txt_cells Q5.out).1 (txt_cells P5.out).1)
                    have M5 := Lib.hid ((Row.of_own hown).drewN 1)
                    have b5 := b4.trans (hb.mono (by omega))
                    have L5 : Hid ((b.take k ++ e ++ b.drop T).length = k + e.length + (b.length - T)) := by show _ = _; simp only [List.length_append, List.length_take, List.length_drop]; omega
                    have ML : Hid (∀ x ∈ b.take k ++ e ++ b.drop T, x < 18446744073709551616) := mem_append_lt (mem_append_lt (fun x hx => HM.out x (List.mem_of_mem_take hx)) HM2.out) (fun x hx => HM.out x (List.mem_of_mem_drop hx))
                    generalize b.take k ++ e ++ b.drop T = V at *
                    clear hown
                    have x1 : (0 : Int) ≤ (k : Int) := by omega
                    have x2 : (k : Int) ≤ (S.length : Int) := by omega
                    have x3 : (0 : Int) ≤ (T : Int) := by omega
                    have x4 : (T : Int) ≤ (S.length : Int) := by omega
                    have x5 : ¬ 9223372036854775807 < min k S.length + X.length := by omega
                    have x6 : ¬ 9223372036854775807 < min k S.length + X.length + (S.length - T) := by omega
                    go_wp2_with fail
                    go_region_held3 (fun w' => w'.cell? ⟨w.heap.size, 0, none⟩ = some (.string ⟨S.toArray⟩) ∧ w'.cell? ⟨w.heap.size + 1, 0, none⟩ = some (.string ⟨X.toArray⟩))
                      (first
                        | exact K5.out
                        | exact K6.out
                        | exact K7.out _)
                      (first
                        | (go_at_call 69; refine (refPack_n A5 c5 wr.heap.size (k + e.length + (b.length - T)) V L5.out ML.out (by omega) wr.drew (Nat.le_refl _) M5.out).mono ?_; rintro e' w6 ⟨A6, c6, rfl, hown6, hb6⟩; have z6 : wr.heap.size ≤ w6.heap.size := hb6.size; have Q6 := Lib.hid (Q5.out.below hb6 (by show w.heap.size < wr.heap.size; omega)); have P6 := Lib.hid (P5.out.below hb6 (by show w.heap.size + 1 < wr.heap.size; omega)); have R6 := Lib.hid (R5.out.below hb6 (by show w.heap.size + 1 + 1 < wr.heap.size; omega)); have K6 := Lib.hid (And.intro (txt_cells Q6.out).1 (txt_cells P6.out).1); obtain ⟨y0, y1, y2, y3⟩ := txt_var R6.out; have b6 := (below_drewN b5 1).trans (hb6.mono (by show w.heap.size ≤ wr.heap.size; omega)); have hown6' : w6.ownsRow wr.heap.size 51 2 (.slice A6 (pack V).length c6) (pack V).length (flatR (pack V)) := hown6; have HO := Lib.hid hown6'; have HB6 := Lib.hid b6; clear hown6 hown6' hb6 b6; have K7 : Hid (∀ s, ((w6.setCell ⟨w.heap.size + 1 + 1, 0, none⟩ (.string s)).setCell ⟨w.heap.size + 1 + 1, 1, none⟩ (.slice A6 (pack V).length c6)).cell? ⟨w.heap.size, 0, none⟩ = some (.string ⟨S.toArray⟩) ∧ ((w6.setCell ⟨w.heap.size + 1 + 1, 0, none⟩ (.string s)).setCell ⟨w.heap.size + 1 + 1, 1, none⟩ (.slice A6 (pack V).length c6)).cell? ⟨w.heap.size + 1, 0, none⟩ = some (.string ⟨X.toArray⟩)) := fun s => ⟨(txt_cells ((Q6.out.far (p := ⟨w.heap.size + 1 + 1, 0, none⟩) (by show w.heap.size ≠ w.heap.size + 1 + 1; omega) _).far (p := ⟨w.heap.size + 1 + 1, 1, none⟩) (by show w.heap.size ≠ w.heap.size + 1 + 1; omega) _)).1, (txt_cells ((P6.out.far (p := ⟨w.heap.size + 1 + 1, 0, none⟩) (by show w.heap.size + 1 ≠ w.heap.size + 1 + 1; omega) _).far (p := ⟨w.heap.size + 1 + 1, 1, none⟩) (by show w.heap.size + 1 ≠ w.heap.size + 1 + 1; omega) _)).1⟩))
                    go_wp2
                    have E := givesT_end (S.take k ++ X ++ S.drop T) (text_splice S X k T) 0 HB6.out R6.out (by omega) (by omega) HO.out
                    refine ret_text rfl _ _ (w.heap.size + 1 + 1) _ _ rfl E.1 rfl ?_
                    rw [HR.out]
                    exact E.2
      · have HR := Lib.hid (spliceT_big hw hg2 hbig)
        clear g3 k3
        go_enter Tryd.func41, Tryd.ntmps41
        go_wp2_with (first
          | (go_at_call 70; refine (refTWithin_any A c B S l f t _ (by rw [Q.out.2.1]; omega) (HH.out.below (Q.out.1.mono hB))).mono ?_; rintro e w1 ⟨rfl, hb1⟩; rw [hw]; have z1 : w.heap.size + 3 ≤ w1.heap.size := by {have := hb1.size; rw [Q.out.2.1] at this; exact this}; have b1 := Q.out.1.trans (hb1.mono (by rw [Q.out.2.1]; omega)); have Q1 := Lib.hid (Q.out.2.2.1.below hb1 (by rw [Q.out.2.1]; omega)); have P1 := Lib.hid (Q.out.2.2.2.1.below hb1 (by rw [Q.out.2.1]; omega)); have R1 := Lib.hid (Q.out.2.2.2.2.below hb1 (by rw [Q.out.2.1]; omega)); obtain ⟨y0, y1⟩ := txt_cells Q1.out; obtain ⟨y2, y3⟩ := txt_cells P1.out;  clear hb1)
          | (go_at_call 20; refine (refTGood_any A2 d B2 X m w1 (by omega) (HH2.out.below (b1.mono hB2))).mono ?_; rintro e w2 ⟨rfl, hb2⟩; rw [hg2]; have z2 := hb2.size; have b2 := b1.trans (hb2.mono (by omega)); have Q2 := Lib.hid (Q1.out.below hb2 (by omega)); have P2 := Lib.hid (P1.out.below hb2 (by omega)); have R2 := Lib.hid (R1.out.below hb2 (by omega)); clear y0 y1 y2 y3; obtain ⟨y0, y1⟩ := txt_cells Q2.out; obtain ⟨y2, y3⟩ := txt_cells P2.out; obtain ⟨y4, y5, y6, y7⟩ := txt_var R2.out; clear hb2))
        have E := givesT_end (l := []) [] rfl 3 b2 R2.out (by omega) (Nat.lt_succ_self _) (World.ownsRow_nil _ _ _ _)
        refine ret_text rfl _ _ (w.heap.size + 1 + 1) _ _ rfl E.1 rfl ?_
        rw [HR.out]
        exact E.2
    · have HR := Lib.hid (spliceT_bad (S := S) (X := X) (l := l) (m := m) (f := f) (t := t) (fun h => hg2 h.2))
      have hg2' : goodT X m = false := by simpa using hg2
      clear g3 hg2
      go_enter Tryd.func41, Tryd.ntmps41
      go_wp2_with (first
        | (go_at_call 70; refine (refTWithin_any A c B S l f t _ (by rw [Q.out.2.1]; omega) (HH.out.below (Q.out.1.mono hB))).mono ?_; rintro e w1 ⟨rfl, hb1⟩; rw [hw]; have z1 : w.heap.size + 3 ≤ w1.heap.size := by {have := hb1.size; rw [Q.out.2.1] at this; exact this}; have b1 := Q.out.1.trans (hb1.mono (by rw [Q.out.2.1]; omega)); have Q1 := Lib.hid (Q.out.2.2.1.below hb1 (by rw [Q.out.2.1]; omega)); have P1 := Lib.hid (Q.out.2.2.2.1.below hb1 (by rw [Q.out.2.1]; omega)); have R1 := Lib.hid (Q.out.2.2.2.2.below hb1 (by rw [Q.out.2.1]; omega)); obtain ⟨y0, y1⟩ := txt_cells Q1.out; obtain ⟨y2, y3⟩ := txt_cells P1.out;  clear hb1)
        | (go_at_call 20; refine (refTGood_any A2 d B2 X m w1 (by omega) (HH2.out.below (b1.mono hB2))).mono ?_; rintro e w2 ⟨rfl, hb2⟩; rw [hg2']; have z2 := hb2.size; have b2 := b1.trans (hb2.mono (by omega)); have Q2 := Lib.hid (Q1.out.below hb2 (by omega)); have P2 := Lib.hid (P1.out.below hb2 (by omega)); have R2 := Lib.hid (R1.out.below hb2 (by omega)); clear y0 y1 y2 y3; obtain ⟨y0, y1⟩ := txt_cells Q2.out; obtain ⟨y2, y3⟩ := txt_cells P2.out; obtain ⟨y4, y5, y6, y7⟩ := txt_var R2.out; clear hb2))
      have E := givesT_end (l := []) [] rfl 2 b2 R2.out (by omega) (Nat.lt_succ_self _) (World.ownsRow_nil _ _ _ _)
      refine ret_text rfl _ _ (w.heap.size + 1 + 1) _ _ rfl E.1 rfl ?_
      rw [HR.out]
      exact E.2
  · have HR := Lib.hid (spliceT_bad (S := S) (X := X) (l := l) (m := m) (f := f) (t := t) (fun h => hw h.1))
    have hw' : withinT S l f t = false := by simpa using hw
    clear hw
    go_enter Tryd.func41, Tryd.ntmps41
    go_wp2_with (first
      | (go_at_call 70; refine (refTWithin_any A c B S l f t _ (by rw [Q.out.2.1]; omega) (HH.out.below (Q.out.1.mono hB))).mono ?_; rintro e w1 ⟨rfl, hb1⟩; rw [hw']; have z1 : w.heap.size + 3 ≤ w1.heap.size := by {have := hb1.size; rw [Q.out.2.1] at this; exact this}; have b1 := Q.out.1.trans (hb1.mono (by rw [Q.out.2.1]; omega)); have Q1 := Lib.hid (Q.out.2.2.1.below hb1 (by rw [Q.out.2.1]; omega)); have P1 := Lib.hid (Q.out.2.2.2.1.below hb1 (by rw [Q.out.2.1]; omega)); have R1 := Lib.hid (Q.out.2.2.2.2.below hb1 (by rw [Q.out.2.1]; omega)); obtain ⟨y0, y1⟩ := txt_cells Q1.out; obtain ⟨y2, y3⟩ := txt_cells P1.out; obtain ⟨y4, y5, y6, y7⟩ := txt_var R1.out; clear hb1))
    have E := givesT_end (l := []) [] rfl 2 b1 R1.out (by omega) (Nat.lt_succ_self _) (World.ownsRow_nil _ _ _ _)
    refine ret_text rfl _ _ (w.heap.size + 1 + 1) _ _ rfl E.1 rfl ?_
    rw [HR.out]
    exact E.2
end Go.Proofs.YtgmeamefbfgbgaaDoor

/-
  Contracts of the document's own answers, layer 4: Cat, Other.
-/
namespace Go.Proofs.YtgmeamefbfgbgaaDoor
set_option maxRecDepth 100000
open Go.RowKit

def catT (S : List UInt8) (l : List RunP) (X : List UInt8) (m : List RunP) : (List UInt8 × List RunP) × Nat :=
  if goodT S l = true ∧ goodT X m = true then spliceT S l (S.length : Nat) (S.length : Nat) X m else (([], []), 2)

def otherTo (S : List UInt8) (bs : List Nat) (y : Nat) (O : List UInt8) : List UInt8 := (List.range S.length).map fun i => if subB (bs.getD i 0) y = true then S.getD i 0 else O.getD (i % O.length) 0
theorem otherTo_len (S : List UInt8) (bs : List Nat) (y : Nat) (O : List UInt8) : (otherTo S bs y O).length = S.length := by unfold otherTo; simp
theorem otherTo_succ {S : List UInt8} {bs : List Nat} {y k : Nat} {O : List UInt8} (hb : k < bs.length) (hk : k < S.length) (hO : k % O.length < O.length) :
    (otherTo S bs y O).take (k + 1) = (otherTo S bs y O).take k ++ [if subB bs[k] y = true then S[k] else O[k % O.length]] := by
  have hl := otherTo_len S bs y O
  rw [List.take_succ_eq_append_getElem (by omega)]
  congr 2
  unfold otherTo
  simp [hb, hk, hO]
def otherOf (S : List UInt8) (l : List RunP) (y : Nat) (O : List UInt8) : List UInt8 := if goodT S l = true ∧ O ≠ [] then otherTo S (bytesOf l) y O else S

set_option maxHeartbeats 2000000 in
theorem refTOther_any (A : Option Addr) (c B : Nat) (S : List UInt8) (l : List RunP) (y : Nat) (hy : y < 18446744073709551616) (O : List UInt8) (hO : O.length ≤ maxLen) (w : World) (hB : B ≤ w.heap.size) (h : Txt w B A S l) :
    Calls Tryd.prog 17 #[.agg #[.string ⟨S.toArray⟩, .slice A l.length c], .int .u64 y, .string ⟨O.toArray⟩] w fun e w' => e = .returned (.agg #[.string ⟨(otherOf S l y O).toArray⟩, .slice A l.length c]) ∧ Below w.heap.size w w' := by
  have HH := Lib.hid h
  unfold maxLen at hO
  clear h
  have Q := Lib.hid (box_and_var w 24 24 (.string ⟨S.toArray⟩) (.slice A l.length c))
  by_cases hg : goodT S l = true
  · by_cases hO0 : O.length = 0
    · have HR : Hid (otherOf S l y O = S) := if_neg (fun h => h.2 (List.eq_nil_of_length_eq_zero hO0))
      obtain rfl : O = [] := List.eq_nil_of_length_eq_zero hO0
      clear hO0
      go_enter Tryd.func17, Tryd.ntmps17
      go_wp2_with (go_at_call 20; refine (refTGood_any A c B S l _ (by rw [Q.out.2.1]; omega) (HH.out.below (Q.out.1.mono hB))).mono ?_; rintro e w1 ⟨rfl, hb1⟩; rw [hg]; have b1 := Q.out.1.trans (hb1.mono (by rw [Q.out.2.1]; omega)); have R1 := Lib.hid (Q.out.2.2.2.below hb1 (by rw [Q.out.2.1]; omega)); obtain ⟨y0, y1⟩ := txt_cells (Q.out.2.2.1.below hb1 (by rw [Q.out.2.1]; omega)); obtain ⟨y4, y5, y6, y7⟩ := txt_var R1.out; clear hb1)
      refine ret_text1 rfl _ _ (w.heap.size + 1) _ _ rfl (blk_two R1.out _ _) rfl ?_
      rw [HR.out]
      exact ⟨rfl, (b1.setCell (by show w.heap.size ≤ w.heap.size + 1; omega) _).setCell (by show w.heap.size ≤ w.heap.size + 1; omega) _⟩
    · obtain ⟨g1, g2, g3⟩ := goodT_size hg
      have HR : Hid (otherOf S l y O = otherTo S (bytesOf l) y O) := if_pos ⟨hg, fun e => hO0 (by rw [e]; rfl)⟩
      have HM := Lib.hid (bytesOf_mem HH.out.hf)
      have H3 := Lib.hid g3
      have hOp : 0 < O.length := by omega
      have ht : ((O.length : Int) == 0) = false := beq_eq_false_iff_ne.2 (by omega)
      clear g3 hO0
      go_enter Tryd.func17, Tryd.ntmps17
      go_wp2_with (first
        | (go_at_call 20; refine (refTGood_any A c B S l _ (by rw [Q.out.2.1]; omega) (HH.out.below (Q.out.1.mono hB))).mono ?_; rintro e w1 ⟨rfl, hb1⟩; rw [hg]; have z1 : w.heap.size + 2 ≤ w1.heap.size := by {have := hb1.size; rw [Q.out.2.1] at this; exact this}; have b1 := Q.out.1.trans (hb1.mono (by rw [Q.out.2.1]; omega)); have Q1 := Lib.hid (Q.out.2.2.1.below hb1 (by rw [Q.out.2.1]; omega)); have R1 := Lib.hid (Q.out.2.2.2.below hb1 (by rw [Q.out.2.1]; omega)); obtain ⟨y0, y1⟩ := txt_cells Q1.out; clear hb1)
        | (go_at_call 42; refine (refBytes_any A c B l HH.out.hf HH.out.hl g2 w1 (by omega) (HH.out.row.below (b1.mono hB))).mono ?_; rintro e w2 ⟨A2, c2, rfl, hown2, hb2⟩; have b2 := b1.trans (hb2.mono (by omega)); have z2 := hb2.size; have Q2 := Lib.hid (Q1.out.below hb2 (by omega)); have R2 := Lib.hid (R1.out.below hb2 (by omega)); have r2 := Row.of_own hown2; clear y0 y1 hown2))
      generalize bytesOf l = bs at *
      have HV := Lib.hid (otherTo_len S bs y O)
      go_loopw [8, 9] (fun v i wr => ∃ k : Nat, k ≤ bs.length ∧ i = .int .i64 k ∧ wr.ownsRow w2.heap.size 5 1 v k (((otherTo S bs y O).take k).map byt) ∧ Below w2.heap.size w2 wr) (fun _ i _ => bs.length - (intOf i).toNat)
      case atStart => exact ⟨0, Nat.zero_le _, rfl, World.ownsRow_nil _ _ _ _, Below.refl _ _⟩
      case round =>
        obtain ⟨k, hk, rfl, hown, hb⟩ := hrel
        have z := hb.size
        have hle : bs.length ≤ 4096 := by rw [H3.out]; exact g1
        by_cases hlt : k < bs.length
        · have hkS : k < S.length := by rw [← H3.out]; exact hlt
          have hmod : k % O.length < O.length := Nat.mod_lt _ hOp
          obtain ⟨ad, rfl, hbl2, hcell⟩ := (r2.below hb).map_at hlt
          have hxk := HM.out bs[k] (List.getElem_mem hlt)
          unfold u64v at hcell
          obtain ⟨x, hx⟩ : ∃ x, bs[k] = x := ⟨_, rfl⟩
          have HX := Lib.hid hx
          rw [hx] at hcell hxk
          clear hx
          by_cases hs : subB x y = true
          · have HS := Lib.hid ((otherTo_succ (y := y) hlt hkS hmod).trans (by rw [HX.out, if_pos hs]))
            go_wp2_with (first
              | (go_at_call 43; refine (refBelow_any x y hxk hy wr).mono ?_; rintro e w3 ⟨rfl, hb3⟩; rw [hs]; have z3 := hb3.size; have hown3 := own_keep hown hb3 (Nat.le_refl _); obtain ⟨y0, y1⟩ := txt_cells (Q2.out.below (hb.trans (hb3.mono z)) (by omega)))
              | (at_builtin; refine wpList_push rfl _ _ _ rfl w2.heap.size 5 _ 1 elt_byt _ _ _ _ rfl hown3 (byt S[k]) rfl rfl (by unfold maxLen; omega) (by omega) (by omega) ?_; intro v4 w4 hown4 hb4))
            go_roundw
            case rel => exact ⟨k + 1, by omega, by go_num, by rw [HS.out, List.map_append]; exact hown4, (hb.trans (hb3.mono z)).trans hb4⟩
            case measure => simp [intOf]; omega
          · have hs' : subB x y = false := by simpa using hs
            have HS := Lib.hid ((otherTo_succ (y := y) hlt hkS hmod).trans (by rw [HX.out, if_neg hs]))
            go_wp2_with (first
              | (go_at_call 43; refine (refBelow_any x y hxk hy wr).mono ?_; rintro e w3 ⟨rfl, hb3⟩; rw [hs']; have z3 := hb3.size; have hown3 := own_keep hown hb3 (Nat.le_refl _))
              | (at_builtin; refine wpList_push rfl _ _ _ rfl w2.heap.size 5 _ 1 elt_byt _ _ _ _ rfl hown3 (byt (O[k % O.length])) rfl rfl (by unfold maxLen; omega) (by omega) (by omega) ?_; intro v4 w4 hown4 hb4))
            go_roundw
            case rel => exact ⟨k + 1, by omega, by go_num, by rw [HS.out, List.map_append]; exact hown4, (hb.trans (hb3.mono z)).trans hb4⟩
            case measure => simp [intOf]; omega
        · obtain rfl : k = bs.length := by omega
          rw [List.take_of_length_le (by rw [HV.out, H3.out]; omega)] at hown
          obtain ⟨A1, c1, rfl⟩ := own_form hown
          have hcv := str_of_row (P := Tryd.prog) (c := c1) (l := otherTo S bs y O) 85 9 5 Tryd.underlying85 Tryd.underlying5 Tryd.underlying9 (Row.of_own hown)
          rw [HV.out, ← H3.out] at hcv
          have R3 := R2.out.below hb (by omega)
          obtain ⟨y4, y5, y6, y7⟩ := txt_var R3
          obtain ⟨y0, y1⟩ := txt_cells (Q2.out.below hb (by omega))
          go_wp2
          refine ret_text1 rfl _ _ (w.heap.size + 1) _ _ rfl (blk_two R3 _ _) rfl ?_
          rw [HR.out]
          exact ⟨rfl, ((b2.trans (hb.mono (by omega))).setCell (by show w.heap.size ≤ w.heap.size + 1; omega) _).setCell (by show w.heap.size ≤ w.heap.size + 1; omega) _⟩
  · have HR : Hid (otherOf S l y O = S) := if_neg (fun h => hg h.1)
    have hg' : goodT S l = false := by simpa using hg
    clear hg
    go_enter Tryd.func17, Tryd.ntmps17
    go_wp2_with (go_at_call 20; refine (refTGood_any A c B S l _ (by rw [Q.out.2.1]; omega) (HH.out.below (Q.out.1.mono hB))).mono ?_; rintro e w1 ⟨rfl, hb1⟩; rw [hg']; have b1 := Q.out.1.trans (hb1.mono (by rw [Q.out.2.1]; omega)); have R1 := Lib.hid (Q.out.2.2.2.below hb1 (by rw [Q.out.2.1]; omega)); obtain ⟨y0, y1⟩ := txt_cells (Q.out.2.2.1.below hb1 (by rw [Q.out.2.1]; omega)); obtain ⟨y4, y5, y6, y7⟩ := txt_var R1.out; clear hb1)
    refine ret_text1 rfl _ _ (w.heap.size + 1) _ _ rfl (blk_two R1.out _ _) rfl ?_
    rw [HR.out]
    exact ⟨rfl, (b1.setCell (by show w.heap.size ≤ w.heap.size + 1; omega) _).setCell (by show w.heap.size ≤ w.heap.size + 1; omega) _⟩
end Go.Proofs.YtgmeamefbfgbgaaDoor

/-
  Arguments of layer 4: a text, what is hidden in one, a pair of labels.
-/
namespace Go.Proofs.YtgmeamefbfgbgaaDoor
open Go.RowKit Go.ChangeShapes Go.WideShapes
set_option maxRecDepth 100000

theorem text_fields : ∃ f0 f1 : Field, Tryd.prog.underlying 24 = some (.struct #[f0, f1]) ∧ f0.offset = 0 ∧ f1.offset = 1 ∧ Tryd.prog.cellsOf f0.type = 1 ∧ Tryd.prog.cellsOf f1.type = 1 ∧ Tryd.prog.underlying f0.type = some .string ∧ f1.type = 22 ∧ Tryd.prog.cellsOf 24 = 2 :=
  ⟨_, _, Tryd.underlying24, by rfl, by rfl, by kernel_rfl, by kernel_rfl, by kernel_rfl, by rfl, by kernel_rfl⟩

section
variable {H : Type} {enc : TypeId × Value → H} {W : World}
theorem string_of_trod {t : TypeId} (ht : Tryd.prog.underlying t = some .string) {fuel : Nat} {cs : List Value} {x : DataW H × List MemPlace} (hf : DataW.trod enc Tryd.prog W 0 (fun _ => true) true fuel t cs = some x) :
    ∃ S : List UInt8, cs = [.string ⟨S.toArray⟩] ∧ S.length ≤ maxLen := by
  obtain ⟨s, rfl, _, hs⟩ := DataW.trod_string ht hf
  refine ⟨s.data.toList, by simp, ?_⟩
  rw [Array.length_toList]; exact hs
theorem text_of_trod {fuel : Nat} {cs : List Value} {x : DataW H × List MemPlace} (hf : DataW.trod enc Tryd.prog W 0 (fun _ => true) true fuel 24 cs = some x) :
    ∃ (A : Option Addr) (c : Nat) (S : List UInt8) (l : List RunP), cs = [.string ⟨S.toArray⟩, .slice A l.length c] ∧ Txt W W.heap.size A S l := by
  obtain ⟨f0, f1, he, o0, o1, c0, c1, k0, k1, kc⟩ := text_fields
  obtain ⟨xs, n, _, _, hl, hxl, hg⟩ := DataW.trod_struct he hf
  rw [kc] at hl
  match cs, hl with
  | [v0, v1], _ =>
    have g0 := hg 0 f0 rfl
    have g1 := hg 1 f1 rfl
    rw [o0, c0] at g0
    rw [o1, c1] at g1
    simp at g0 g1
    have hx2 : xs.length = 2 := hxl
    rw [List.getElem?_eq_getElem (show 0 < xs.length by omega)] at g0
    rw [List.getElem?_eq_getElem (show 1 < xs.length by omega), k1] at g1
    obtain ⟨S, e0, hS⟩ := string_of_trod k0 g0
    obtain ⟨A, c, l, e1, h1, h2, h3⟩ := runs_of_trod g1
    injection e0 with e0
    injection e1 with e1
    exact ⟨A, c, S, l, by rw [e0, e1], hS, h2, h1, h3⟩
theorem open_textv {r : Reach} {b0 : Nat} {v : Value} {d : DataW H} {ps : List MemPlace} (hval : Value.okWide Tryd.prog W r b0 24 v) (h : DataW.Trod enc Tryd.prog W 0 (fun _ => true) true 24 v d ps) :
    ∃ (A : Option Addr) (c : Nat) (S : List UInt8) (l : List RunP), v = .agg #[.string ⟨S.toArray⟩, .slice A l.length c] ∧ Txt W W.heap.size A S l := by
  obtain ⟨f0, f1, he, _⟩ := text_fields
  obtain ⟨cs, rfl, _⟩ := okWide_struct he hval
  obtain ⟨fuel, hf⟩ := h
  obtain ⟨A, c, S, l, e, ht⟩ := text_of_trod hf
  refine ⟨A, c, S, l, ?_, ht⟩
  have : cs.toList = [.string ⟨S.toArray⟩, .slice A l.length c] := by simpa [Value.cells] using e
  rw [← Array.toArray_toList (xs := cs), this]
end
end Go.Proofs.YtgmeamefbfgbgaaDoor

/-
  Arguments of layer 4: what is hidden in a text; a pair of labels.
-/
namespace Go.Proofs.YtgmeamefbfgbgaaDoor
open Go.RowKit Go.ChangeShapes Go.WideShapes
set_option maxRecDepth 100000

section
variable {H : Type} {enc : TypeId × Value → H} {W : World}
end
end Go.Proofs.YtgmeamefbfgbgaaDoor

/-
  The landed New, Copy: layer 8.
-/
import Derived.Test.YtfeaffabminpfaaHiPath
import Derived.Test.YtfeaffabminpfaaHiIter
namespace Go.Proofs.Ytfeaffabminpfaa
open Go.RowKit

theorem at_insert {P : Program} {w : World} {ops : Array Oper} {rest : List Oper} {a : Act} {Q : Exit → Act → World → Prop} {d : Option Nat} {ty : TypeId} {pos : String} {after : Array Edge} {g : Option (Nat × Bool)} (t : TypeId) (x y z : Operand)
    (h : wpList P ops Q (⟨d, .insert t x y z, ty, pos, after, g⟩ :: rest) a w) : wpList P ops Q (⟨d, .insert t x y z, ty, pos, after, g⟩ :: rest) a w := h
theorem wpList_insert_own {H : Type} {P : Program} {w : World} {ops : Array Oper} {rest : List Oper} {o : Oper} {a : Act} {Q : Exit → Act → World → Prop}
    (hg : o.guard = none) (m x v : Operand) (t : TypeId) (hop : o.op = Op.insert t m x v)
    (k e : TypeId) (K : Maps.Keyed P k) (ht : P.underlying t = some (.map k e)) (R : Value → Option (DataW H × List MemPlace)) (b n : Nat) (D : DataW H)
    (hm : a.eval m = .map (some b)) (hown : w.ownsMap P k R b n D) (hn : n < maxLen) (key val : Value) (kl : Lit) (hx : a.eval x = key) (hv : a.eval v = val) (hkey : keyOf P k key = some kl)
    (d : DataW H) (ps : List MemPlace) (hval : R val = some (d, ps))
    (hK : ∀ w', w'.ownsMap P k R b (n + 1) (D.put kl d) → w.grownBy w' (some b) → wpList P ops Q rest (a.put o.dst undef) w') :
    wpList P ops Q (o :: rest) a w := by
  refine wpList_plain hg fun K' hK' => ?_
  obtain ⟨w', hrun, r1, r2⟩ := hown.update K ht hn hkey hval
  unfold Oper.wp
  simp [execOp, hop, hm, hx, hv, hrun, Result.andThen]
  exact hK' _ _ (hK w' r1 r2)

set_option maxHeartbeats 1000000 in
theorem hiNew_nil (dep : Int) (hd : ¬ (1 ≤ dep ∧ dep ≤ 64)) (w : World) : Calls Try.prog 9 #[.int .i64 dep] w fun e w' => e = .returned (.pointer none) ∧ w' = w := by
  by_cases h : dep < 1
  · clear hd
    go_enter Try.func9, Try.ntmps9
    go_wp2_with fail
    go_ret
    exact ⟨rfl, rfl⟩
  · have h2 : 64 < dep := by omega
    clear hd
    go_enter Try.func9, Try.ntmps9
    go_wp2_with fail
    go_ret
    exact ⟨rfl, rfl⟩
/-- a history that is new -/
def GivesP (w : World) (G : List StP) (dep now last : Int) (e : Ending) (w' : World) : Prop :=
  ∃ p b, e = .returned (.pointer (some ⟨p, 0, none⟩)) ∧ w.heap.size ≤ p ∧ w.heap.size ≤ b ∧ Hst w' p b G dep now last ∧ Below w.heap.size w w'
set_option maxRecDepth 100000 in
set_option maxHeartbeats 2000000 in
theorem hiNew_any (dep : Int) (hd : 1 ≤ dep ∧ dep ≤ 64) (w : World) :
    Calls Try.prog 9 #[.int .i64 dep] w (GivesP w [firstS] dep 0 0) := by
  have h1 : ¬ dep < 1 := by omega
  have h2 : ¬ 64 < dep := by omega
  have hmm := @run_makeMap Try.prog
  clear hd
  go_enter Try.func9, Try.ntmps9
  go_wp2_with (with_reducible refine at_insert 65 (.tmp 10) _ (.tmp 11) ?_; refine wpList_insert_own rfl (.tmp 10) _ (.tmp 11) 65 rfl 3 74 key_law Try.underlying65 rawV w.heap.size 0 (.map []) rfl (World.ownsMap_made w _ _ _) (by unfold maxLen; omega) (.int .i64 0) firstS.val (.int .i64 0) rfl rfl (key_of (by omega)) (.held firstS.val) [] rfl ?_; intro w1 hown1 hg1)
  go_ret
  have hm : MapS w1 w.heap.size [firstS] := mapS_of (n := 1) (by
    have e : dataS [firstS] = (DataW.map []).put (.int .i64 0) (.held firstS.val) := (dataS_put_new (L := []) (s := firstS) (by simp)).symm
    rw [e]; exact hown1)
  have hz := hg1.size
  have hlt := hm.lt
  have hb : Below w.heap.size w w1 := ((Below.refl _ w).alloc (Nat.le_refl _) _).grown hg1 (by simp) (fun j hj => by cases hj; exact Nat.le_refl _)
  refine ⟨w1.heap.size, w.heap.size, rfl, hb.size, Nat.le_refl _, ⟨Blk.new _ _ _, hm.fresh ((Below.refl _ _).alloc (Nat.le_refl _) _), fun s hs => ?_⟩, hb.alloc hb.size _⟩
  rw [List.mem_singleton.1 hs]
  exact ⟨⟨Nat.zero_le _, by intro x hx; simp [firstS, zeroE] at hx, Nat.zero_le _, .inl rfl⟩, ⟨Nat.zero_le _, by intro x hx; simp [firstS, zeroE] at hx, Nat.zero_le _, .inl rfl⟩⟩

theorem hiClone_any {w : World} {b : Nat} {G : List StP} (h : MapS w b G) :
    Calls Try.prog 49 #[.map (some b)] w fun e w' => e = .returned (.map (some w.heap.size)) ∧ MapS w' w.heap.size G ∧ Below w.heap.size w w' := by
  refine (AnyW.maps_Clone_owns mapClone 3 rawV b G.length (dataS G) w h).mono ?_
  rintro e w' ⟨rfl, h1, _, hb⟩
  exact ⟨rfl, h1, hb⟩
set_option maxRecDepth 100000 in
set_option maxHeartbeats 2000000 in
theorem hiCopy_any {w : World} {p b : Nat} {G : List StP} {dep now last : Int} (h : Hst w p b G dep now last) :
    Calls Try.prog 29 #[.pointer (some ⟨p, 0, none⟩)] w (GivesP w G dep now last) := by
  obtain ⟨y0, y1, y2, y3⟩ := h.cells
  have H := Lib.hid h
  clear h
  go_enter Try.func29, Try.ntmps29
  go_upto_region 4 with (go_at_call 31; refine (hiUsable_any H.out.blk).mono ?_; rintro e w' ⟨rfl, rfl⟩)
  rename World => w
  have hb0 : Below w.heap.size w (w.alloc (.cells #[.int .i64 dep, .int .i64 now, .int .i64 last, .map (some b)] 67)) := (Below.refl _ w).alloc (Nat.le_refl _) _
  have HB : Hid (Blk (w.alloc (.cells #[.int .i64 dep, .int .i64 now, .int .i64 last, .map (some b)] 67)) w.heap.size 67 #[.int .i64 dep, .int .i64 now, .int .i64 last, .map (some b)]) := Blk.new _ _ _
  have HK := Lib.hid (H.out.fresh hb0)
  have HB0 := Lib.hid hb0
  clear hb0 y0 y1 y2 y3
  generalize w.alloc (.cells #[.int .i64 dep, .int .i64 now, .int .i64 last, .map (some b)] 67) = wb at *
  obtain ⟨y0, y1, y2, y3⟩ := HK.out.cells
  go_wp2_with (go_at_call 49; refine (hiClone_any HK.out.map).mono ?_; rintro e w2 ⟨rfl, hm2, bb⟩; have B2 := Lib.hid (HB.out.below bb HB.out.lt); have M2 := Lib.hid hm2; have W2 := Lib.hid (HB0.out.trans (bb.mono HB0.out.size)); clear hm2 bb y0 y1 y2 y3; obtain ⟨⟨y0, y1, y2, y3⟩, y4, y5, y6, y7⟩ := hi_var B2.out)
  go_ret
  have hlt : w.heap.size < wb.heap.size := HB.out.lt
  have hW : Below w.heap.size w (w2.setCell ⟨w.heap.size, 3, none⟩ (.map (some wb.heap.size))) := W2.out.setCell (Nat.le_refl _) _
  refine ⟨w.heap.size, wb.heap.size, rfl, Nat.le_refl _, HB0.out.size, ⟨?_, M2.out.set (by show wb.heap.size ≠ w.heap.size; omega) _, fun s hs => ?_⟩, hW⟩
  · have := B2.out.set_ 3 (.map (some wb.heap.size)); simpa using this
  · have hq : ∀ k, k < w.heap.size → ¬ PB w.heap.size wb.heap.size k := fun k hk hp => by rcases hp with hp | hp <;> omega
    exact ⟨((H.out.eds s hs).1.other hq).fresh hW, ((H.out.eds s hs).2.other hq).fresh hW⟩
end Go.Proofs.Ytfeaffabminpfaa

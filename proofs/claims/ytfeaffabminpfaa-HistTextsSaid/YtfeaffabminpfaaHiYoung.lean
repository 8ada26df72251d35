/-
  The youngest child of the present state: layer 8.
-/
import Derived.Test.YtfeaffabminpfaaHiPath
import Derived.Maps.RangeWalk
import Derived.BigQuiet
namespace Go.Proofs.Ytfeaffabminpfaa
open Go.RowKit

theorem findS_neg {G : List StP} {n : Int} (h : (findS G n).2 = true) : (findS G n).1 ∈ G ∧ (findS G n).1.n = n := (findS_mem (find_in.1 h)).2
/-- a range over a history's map comes to an end, or to one of its states -/
theorem wpList_next_hist (w : World) {ops : Array Oper} {rest : List Oper} {o : Oper} {a : Act} {Q : Exit → Act → World → Prop} (hg : o.guard = none) (it : Operand) (hop : o.op = Op.next it false) (b r : Nat) (G : List StP) (left : Lit → Bool) (cnt : Nat)
    (hit : a.eval it = .pointer (some ⟨r, 0, none⟩)) (h : w.ranges Try.prog 3 rawV b r G.length (dataS G) left cnt)
    (hDone : cnt = 0 → (∀ kl, left kl = false) → wpList Try.prog ops Q rest (a.put o.dst (.tuple #[.bool false])) w)
    (hMore : ∀ (n1 up at1 : Int) (S : List UInt8) (A1 : Option Addr) (l : List RunP) (c1 : Nat) (X : List UInt8) (B1 : Option Addr) (m : List RunP) (d : Nat) (w' : World) (cnt' : Nat), StP.mk n1 up ⟨at1, S, A1, l, c1, X, B1, m, d⟩ ∈ G → left (.int .i64 n1) = true →
      w'.ranges Try.prog 3 rawV b r G.length (dataS G) (fun z => left z && !z.sameKey (.int .i64 n1)) cnt' → cnt' < cnt → w.grownBy w' (some r) → w'.heap.size = w.heap.size →
      (Instr.entry (.pointer (some ⟨r, 0, none⟩))).run Try.prog w' = .ok (.tuple #[.int .i64 n1, .agg #[.int .i64 up, .int .i64 at1, .string ⟨S.toArray⟩, .slice A1 l.length c1, .string ⟨X.toArray⟩, .slice B1 m.length d]]) w' → wpList Try.prog ops Q rest (a.put o.dst (.tuple #[.bool true, .int .i64 n1, .agg #[.int .i64 up, .int .i64 at1, .string ⟨S.toArray⟩, .slice A1 l.length c1, .string ⟨X.toArray⟩, .slice B1 m.length d]])) w') :
    wpList Try.prog ops Q (o :: rest) a w := by
  refine wpList_next_ranges w hg it hop 3 key_law rawV (Value.int .i64) (fun v => v) (fun key kl hk => by obtain ⟨x, hx, _⟩ := Maps.keyOf_int_inv Try.underlying3 hk; exact ⟨x, hx⟩) (fun v y _ => ⟨v, rfl⟩) b r G.length (dataS G) left cnt hit h hDone ?_
  intro x c kl y w' cnt' hkey hlk hv hat hrg hlt hgr hsz hen
  obtain ⟨x', ex, rfl, _⟩ := Maps.keyOf_int_inv Try.underlying3 hkey
  replace ex := (Value.int.inj ex).2
  subst ex
  replace hv := Option.some.inj hv
  have hy : y.1 = .held c := (congrArg Prod.fst hv).symm
  have hat := fun zd => (dataS_at G x zd).symm.trans (hat zd)
  cases hf : (findS G x).2
  · have := hat .nil
    rw [hf, if_neg (by decide), hy] at this
    cases this
  · have hval := hat .nil
    rw [hf, if_pos rfl, hy] at hval
    replace hval := DataW.held.inj hval
    obtain ⟨hm, hn⟩ := findS_neg hf
    obtain ⟨s, hs⟩ : ∃ s, (findS G x).1 = s := ⟨_, rfl⟩
    rw [hs] at hval hm hn
    obtain ⟨n1, up, ⟨a1, S, A1, l, c1, X, B1, m, d⟩⟩ := s
    dsimp only at hn
    subst hn
    subst hval
    exact hMore n1 up a1 S A1 l c1 X B1 m d w' cnt' hm hlk hrg hlt hgr hsz hen

/-- the greatest of the children met so far -/
def YB (G : List StP) (now : Int) (left : Lit → Bool) (c : Int) : Prop := (c = -1 ∨ ∃ s ∈ G, s.up = now ∧ s.n = c) ∧ ∀ s ∈ G, s.up = now → left (.int .i64 s.n) = true ∨ s.n ≤ c
/-- the greatest of all, or none -/
def Young (G : List StP) (now c : Int) : Prop := (c = -1 ∨ ∃ s ∈ G, s.up = now ∧ s.n = c) ∧ ∀ s ∈ G, s.up = now → s.n ≤ c
theorem yb_start (G : List StP) (now : Int) : YB G now (Maps.has (dataS G)) (-1) := ⟨Or.inl rfl, fun s hs _ => Or.inl (by rw [dataS_has]; exact find_in.2 ⟨s, hs, rfl⟩)⟩
theorem yb_end {G : List StP} {now c : Int} {left : Lit → Bool} (h : YB G now left c) (hl : ∀ kl, left kl = false) : Young G now c :=
  ⟨h.1, fun s hs hu => (h.2 s hs hu).resolve_left (by rw [hl]; decide)⟩
theorem yb_not {G : List StP} {now c : Int} {left : Lit → Bool} (h : YB G now left c) (hu : UpS G) {s : StP} (hs : s ∈ G) (hne : s.up ≠ now) : YB G now (fun z => left z && !z.sameKey (.int .i64 s.n)) c := by
  refine ⟨h.1, fun t ht htu => ?_⟩
  rcases h.2 t ht htu with h1 | h1
  · left
    have : t.n ≠ s.n := fun e => hne (by rw [← inj_num hu ht hs e]; exact htu)
    show (left _ && _) = true
    rw [h1, same_int]
    simp [this]
  · exact Or.inr h1
theorem yb_yes {G : List StP} {now c : Int} {left : Lit → Bool} (h : YB G now left c) {s : StP} (hs : s ∈ G) (he : s.up = now) : YB G now (fun z => left z && !z.sameKey (.int .i64 s.n)) (max c s.n) := by
  refine ⟨?_, fun t ht htu => ?_⟩
  · by_cases hc : c ≤ s.n
    · rw [Int.max_eq_right hc]; exact Or.inr ⟨s, hs, he, rfl⟩
    · rw [Int.max_eq_left (by omega)]; exact h.1
  · by_cases e : t.n = s.n
    · right; rw [e]; omega
    · rcases h.2 t ht htu with h1 | h1
      · left; show (left _ && _) = true; rw [h1, same_int]; simp [e]
      · right; omega

theorem ranges_drewN {P : Program} {k : TypeId} {R : Value → Option (DataW Value × List MemPlace)} {b r n cnt : Nat} {D : DataW Value} {left : Lit → Bool} {w : World} (h : w.ranges P k R b r n D left cnt) (m : Nat) : (w.drewN m).ranges P k R b r n D left cnt :=
  h.kept (row := none) ⟨rfl, rfl, rfl, Nat.le_refl _, fun _ _ _ => rfl⟩ (by simp) (by simp)
set_option maxRecDepth 100000 in
set_option maxHeartbeats 4000000 in
theorem hiYoung_any {w : World} {p b : Nat} {G : List StP} {dep now last : Int} (h : Hst w p b G dep now last) (hu : UpS G) :
    Calls Try.prog 35 #[.pointer (some ⟨p, 0, none⟩)] w fun e w' => ∃ c, e = .returned (.int .i64 c) ∧ Young G now c ∧ Below w.heap.size w w' := by
  obtain ⟨y0, y1, y2, y3⟩ := h.cells
  have H := Lib.hid h
  have HU := Lib.hid hu
  have hlt := h.map.lt
  clear h hu y0 y1 y2
  go_enter Try.func35, Try.ntmps35
  go_wp2_with (at_range; refine wpList_range_own _ rfl _ 65 rfl 3 74 key_law Try.underlying65 rawV b G.length (dataS G) rfl H.out.map ?_; intro w0 hrg0 hg0 hs0)
  go_frame
  go_loopw [3] (fun c wr => ∃ (left : Lit → Bool) (cnt : Nat) (cv : Int), c = .int .i64 cv ∧ wr.ranges Try.prog 3 rawV b w.heap.size G.length (dataS G) left cnt ∧ YB G now left cv ∧ Below w.heap.size w wr) (fun _ wr => wr.rangeLeft b w.heap.size)
  case atStart => exact ⟨_, _, -1, rfl, hrg0, yb_start G now, ⟨hg0.os, hg0.tape, hg0.output, by omega, fun k hk => hg0.block k hk (by simp)⟩⟩
  case round =>
    obtain ⟨left, cnt, cv, rfl, hrg, hyb, hb⟩ := hrel
    have HY := Lib.hid hyb
    clear hyb
    go_wp2_with (at_next; refine wpList_next_hist _ rfl _ rfl b w.heap.size G left cnt rfl hrg ?_ ?_)
    · intro _ hl0
      go_wp2
      go_ret
      exact ⟨cv, rfl, yb_end HY.out hl0, hb⟩
    · intro n1 up a S A1 l c1 X B1 m d w1 cnt1 hm hlk hrg1 hlt1 hg1 hs1 hen
      have hb1 : Below w.heap.size w w1 := hb.grown hg1 hb.size (fun j hj => by cases hj; exact Nat.le_refl _)
      clear hs1
      go_upto_region 5 with fail
      have hx : Blk (w1.alloc (.cells #[.int .i64 up, .int .i64 a, .string ⟨S.toArray⟩, .slice A1 l.length c1, .string ⟨X.toArray⟩, .slice B1 m.length d] 74)) w1.heap.size 74 #[.int .i64 up, .int .i64 a, .string ⟨S.toArray⟩, .slice A1 l.length c1, .string ⟨X.toArray⟩, .slice B1 m.length d] := Blk.new _ _ _
      have hx0 : (w1.alloc (.cells #[.int .i64 up, .int .i64 a, .string ⟨S.toArray⟩, .slice A1 l.length c1, .string ⟨X.toArray⟩, .slice B1 m.length d] 74)).cell? ⟨w1.heap.size, 0, none⟩ = some (.int .i64 up) := by simp
      have hrg2 := hrg1.alloc (.cells #[.int .i64 up, .int .i64 a, .string ⟨S.toArray⟩, .slice A1 l.length c1, .string ⟨X.toArray⟩, .slice B1 m.length d] 74)
      have hb2 := hb1.alloc hb1.size (.cells #[.int .i64 up, .int .i64 a, .string ⟨S.toArray⟩, .slice A1 l.length c1, .string ⟨X.toArray⟩, .slice B1 m.length d] 74)
      clear hx hrg1 hb1 hg1
      generalize w1.alloc (.cells #[.int .i64 up, .int .i64 a, .string ⟨S.toArray⟩, .slice A1 l.length c1, .string ⟨X.toArray⟩, .slice B1 m.length d] 74) = wx at *
      obtain ⟨x0, x1, x2, x3⟩ := (H.out.fresh hb2).cells
      clear x0 x2 x3
      have HM := Lib.hid hm
      have hms : cnt1 < wr.rangeLeft b w.heap.size := by rw [hrg.left_eq]; exact hlt1
      clear hm hlk hrg hen
      by_cases he : up = now
      · have ht : (up == now) = true := by rw [beq_iff_eq]; exact he
        have HE := Lib.hid he
        clear he
        go_quiet (fail)
        go_wp2
        go_roundw
        case rel => exact ⟨_, cnt1, max cv n1, rfl, ranges_drewN hrg2 _, yb_yes HY.out HM.out HE.out, below_drewN hb2 _⟩
        case measure => rw [(ranges_drewN hrg2 _).left_eq]; exact hms
      · have ht : (up == now) = false := by rw [beq_eq_false_iff_ne]; exact he
        have HE := Lib.hid he
        clear he
        go_quiet (fail)
        go_wp2
        go_roundw
        case rel => exact ⟨_, cnt1, cv, rfl, ranges_drewN hrg2 _, yb_not HY.out HU.out HM.out HE.out, below_drewN hb2 _⟩
        case measure => rw [(ranges_drewN hrg2 _).left_eq]; exact hms
end Go.Proofs.Ytfeaffabminpfaa

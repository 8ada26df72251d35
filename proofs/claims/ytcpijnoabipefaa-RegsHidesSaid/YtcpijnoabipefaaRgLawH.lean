/-
  Registers to which texts went that are alike for a level have texts that are alike for it: layer 9.
-/
import Derived.Test.YtcpijnoabipefaaRgAlike
import Derived.Test.YtcpijnoabipefaaRgLawB
namespace Go.Proofs.Ytcpijnoabipefaa
open Go.RowKit

/-- empty registers, beside any blocks -/
theorem Rgs.empty {P Q : Nat → Prop} {w : World} {g : Nat} (h : Rgs w P g newR) (hq : Q g) (hl : ∀ k, Q k → k < w.heap.size) : Rgs w Q g newR := by
  obtain ⟨Z, e1, e2, e3⟩ := h.mem
  refine ⟨h.ok, hq, hl, Z, e1, e2, fun z hz => ?_⟩
  have hx := e3 z hz
  have hm : z.reg ∈ newR := by rw [← e1]; exact List.mem_map_of_mem hz
  have hr := (List.mem_replicate.1 hm).2
  have he : z.l = [] := congrArg RegP.l hr
  exact ⟨hx.hS, hx.hf, hx.hl, .inl (by rw [he]; rfl)⟩
/-- two registers that are alike -/
structure BothG (w0 w : World) (g g2 y : Nat) (R R' : List RegP) : Prop where
  one : Rgs w (fun k => k = g ∨ k = g2) g R
  two : Rgs w (fun k => k = g ∨ k = g2) g2 R'
  bl : Below w0.heap.size w0 w
theorem BothG.step {w0 w w' : World} {g g2 y : Nat} {R R' : List RegP} (h : BothG w0 w g g2 y R R') (hb : Below w.heap.size w w') : BothG w0 w' g g2 y R R' := ⟨h.one.fresh hb, h.two.fresh hb, h.bl.trans (hb.mono h.bl.size)⟩
theorem grow_both {w0 w : World} {g g2 y : Nat} {R R' : List RegP} (h : BothG w0 w g g2 y R R') : Grow w (fun w' => BothG w0 w' g g2 y R R') := fun _ hb => h.step hb

theorem two_acts (w : World) (cs : Array Value) : Below w.heap.size w ((w.alloc (.cells cs 40)).alloc (.cells cs 40)).drew ∧ Blk ((w.alloc (.cells cs 40)).alloc (.cells cs 40)).drew w.heap.size 40 cs ∧ Blk ((w.alloc (.cells cs 40)).alloc (.cells cs 40)).drew (w.heap.size + 1) 40 cs := by
  have b1 := (Below.refl w.heap.size w).alloc (Nat.le_refl _) (.cells cs 40)
  have h1 := Blk.new w 40 cs
  have h2 := Blk.new (w.alloc (.cells cs 40)) 40 cs
  have hz : (w.alloc (.cells cs 40)).heap.size = w.heap.size + 1 := by simp
  rw [hz] at h2
  exact ⟨below_drewN (b1.alloc b1.size _) 1, (h1.alloc _).drew, h2.drew⟩
/-- the two registers, while each is changed once -/
structure StG (w6 wz : World) (g g2 : Nat) (r1 r2 : List RegP) : Prop where
  one : Rgs wz (fun k => k = g ∨ k = g2) g r1
  two : Rgs wz (fun k => k = g ∨ k = g2) g2 r2
  tch : Tch (fun k => k = g ∨ k = g2) w6 wz
theorem StG.start {w6 : World} {g g2 : Nat} {r1 r2 : List RegP} (h1 : Rgs w6 (fun k => k = g ∨ k = g2) g r1) (h2 : Rgs w6 (fun k => k = g ∨ k = g2) g2 r2) (n : Nat) : StG w6 (w6.drewN n) g g2 r1 r2 :=
  ⟨h1.fresh (below_drewN (Below.refl _ _) n), h2.fresh (below_drewN (Below.refl _ _) n), (Tch.refl _ _).drewN n⟩
theorem StG.left {w6 wz : World} {g g2 : Nat} {r1 r2 : List RegP} (hne : g ≠ g2) (h : StG w6 wz g g2 r1 r2) {n : Int} (hn : -2147483648 ≤ n ∧ n ≤ 2147483647) (A : Option Addr) (c : Nat) {S : List UInt8} {l : List RunP} (b cut wide : Bool) (hx : Txu wz A S l) :
    Calls Try.prog 14 #[.pointer (some ⟨g, 0, none⟩), .agg #[.int .i32 n, .string ⟨S.toArray⟩, .slice A l.length c, .bool b, .bool cut, .bool wide]] wz fun e w' => e = .returned (.int .i64 ((doesR r1 n S l b cut wide).2 : Nat)) ∧ StG w6 w' g g2 (doesR r1 n S l b cut wide).1 r2 := by
  refine (rgDoes_any h.one n hn A c S l b cut wide hx).mono ?_
  rintro e w' ⟨rfl, hr, ht⟩
  exact ⟨rfl, hr, h.two.far ht (Or.inl rfl) hne, h.tch.trans (ht.more fun k hk => Or.inl hk)⟩
theorem StG.right {w6 wz : World} {g g2 : Nat} {r1 r2 : List RegP} (hne : g ≠ g2) (h : StG w6 wz g g2 r1 r2) {n : Int} (hn : -2147483648 ≤ n ∧ n ≤ 2147483647) (A : Option Addr) (c : Nat) {S : List UInt8} {l : List RunP} (b cut wide : Bool) (hx : Txu wz A S l) :
    Calls Try.prog 14 #[.pointer (some ⟨g2, 0, none⟩), .agg #[.int .i32 n, .string ⟨S.toArray⟩, .slice A l.length c, .bool b, .bool cut, .bool wide]] wz fun e w' => e = .returned (.int .i64 ((doesR r2 n S l b cut wide).2 : Nat)) ∧ StG w6 w' g g2 r1 (doesR r2 n S l b cut wide).1 := by
  refine (rgDoes_any h.two n hn A c S l b cut wide hx).mono ?_
  rintro e w' ⟨rfl, hr, ht⟩
  exact ⟨rfl, h.one.far ht (Or.inr rfl) (fun e => hne e.symm), hr, h.tch.trans (ht.more fun k hk => Or.inr hk)⟩
theorem act_set {w : World} {g T : Nat} {a b c d e f : Value} (h : Blk w g T #[a, b, c, d, e, f]) (x y : Value) : Blk ((w.setCell ⟨g, 1, none⟩ x).setCell ⟨g, 2, none⟩ y) g T #[a, x, y, d, e, f] := by
  have := (h.set_ 1 x).set_ 2 y
  simpa using this
theorem use_factG {p G : Prop} (h : p) (k : p → G) : G := k h
theorem belowG_dr {B : Nat} {a w : World} (h : Below B a w) : Below B a w.drew := below_drewN h 1
theorem belowG_al {B : Nat} {a w : World} {o : Obj} (h : Below B a w) (hB : B ≤ a.heap.size) : Below B a (w.alloc o) := h.alloc (Nat.le_trans hB h.size) o
set_option maxRecDepth 100000 in
set_option maxHeartbeats 80000000 in
theorem regsHides_walk (w : World) (A : Option Addr) (c : Nat) (acs : List ActG) (_hlen : acs.length ≤ maxLen) (hA : ∀ a ∈ acs, ActGOk w a) (row : Row w w.heap.size A (flatA acs)) (O : List UInt8) (hO : O.length ≤ maxLen) (y : Nat) (hy : y < 18446744073709551616) :
    Calls Try.prog 5 #[.slice A acs.length c, .string ⟨O.toArray⟩, .int .u64 y] w fun e w' => e = .returned (.bool true) ∧ Below w.heap.size w w' := by
  have HA := Lib.hid hA
  clear hA
  have hO' : O.length ≤ 9223372036854775807 := by unfold maxLen at hO; omega
  by_cases hO5 : (5000 : Int) < (O.length : Int)
  · go_enter Try.func5, Try.ntmps5
    go_wp2_with (first
      | (go_at_call 7; refine (aliveG_any _).mono ?_; rintro e w1 ⟨rfl, b1⟩)
      | (go_at_call 8; refine (rgNew_any w1).mono ?_; rintro e w2 ⟨rfl, h2, b2, z2⟩)
      | (go_at_call 8; refine (rgNew_any w2).mono ?_; rintro e w3 ⟨rfl, h3, b3, z3⟩))
    go_ret
    exact ⟨rfl, (b1.trans (b2.mono b1.size)).trans (b3.mono (Nat.le_trans b1.size b2.size))⟩
  · go_enter Try.func5, Try.ntmps5
    go_wp2_with (first
      | (go_at_call 7; refine (aliveG_any _).mono ?_; rintro e w1 ⟨rfl, b1⟩)
      | (go_at_call 8; refine (rgNew_any w1).mono ?_; rintro e w2 ⟨rfl, h2, b2, z2⟩)
      | (go_at_call 8; refine (rgNew_any w2).mono ?_; rintro e w3 ⟨rfl, h3, b3, z3⟩))
    have hz1 := b1.size
    have H3 : Hid (Rgs w3 (fun k => k = w1.heap.size ∨ k = w2.heap.size) w1.heap.size newR) := h2.more b3 (fun k hk => Or.inl hk) (fun k hk => by rcases hk with hk | hk; exact Or.inl hk; exact Or.inr (by omega)) (fun k hk => by rcases hk with hk | hk <;> omega)
    have G3 : Hid (Rgs w3 (fun k => k = w1.heap.size ∨ k = w2.heap.size) w2.heap.size newR) := h3.empty (Or.inr rfl) (fun k hk => by rcases hk with hk | hk <;> omega)
    have K3 : Hid (BothG w w3 w1.heap.size w2.heap.size y newR newR) := ⟨H3.out, G3.out, (b1.trans (b2.mono b1.size)).trans (b3.mono (Nat.le_trans b1.size b2.size))⟩
    have hgw : w.heap.size ≤ w1.heap.size := hz1
    have hgw2 : w.heap.size ≤ w2.heap.size := by omega
    have hne : w1.heap.size ≠ w2.heap.size := by omega
    clear h2 h3 b1 b2 b3 z3 H3 G3 hz1
    rw [z2] at K3 hgw2 hne
    clear z2
    generalize w1.heap.size = g at *
    generalize g + 1 = g2 at *
    go_loopw [9] (fun i wr => ∃ k : Nat, k ≤ acs.length ∧ k ≤ 40 ∧ i = .int .i64 k ∧ ∃ R R', BothG w wr g g2 y R R' ∧ AlikeR y R R') (fun i _ => acs.length - (intOf i).toNat)
    case atStart => exact ⟨0, Nat.zero_le _, by omega, rfl, newR, newR, K3.out, alikeR_new y⟩
    case round =>
      obtain ⟨k, hk, hk40, rfl, R, R', hbo, hal⟩ := hrel
      have KR := Lib.hid (grow_both hbo)
      have AL := Lib.hid hal
      clear K3 hbo hal
      by_cases hin : k < acs.length ∧ k < 40
      · obtain ⟨hlt, h40⟩ := hin
        have hlt' : (k : Int) < (acs.length : Int) := by omega
        have h40' : (k : Int) < 40 := by omega
        obtain ⟨ad, rfl, hd⟩ := actG_grow row hlt
        have HD := Lib.hid hd
        have HX := Lib.hid (HA.out acs[k] (List.getElem_mem hlt))
        clear hd
        obtain ⟨t, ht⟩ : ∃ t, t = acs[k] := ⟨_, rfl⟩
        rw [← ht] at HD HX
        clear ht
        obtain ⟨n1, S1, A1, l1, c1, b1, cut1, wide1⟩ := t
        have hn1 := HX.out.hn
        have HT := Lib.hid HX.out.txt
        dsimp only at hn1 HT HD
        clear HX
        have hTX : Hid (∀ wz, Below w.heap.size w wz → Txu wz A1 S1 l1) := fun wz hz => (Txt.below HT.out hz).more hz.size
        have hS := HT.out.hS
        have hl := HT.out.hl
        have hk0 : (0 : Int) ≤ (k : Int) := by omega
        go_upto_region 11 with fail
        have KC : Hid (∀ w', Below wr.heap.size wr w' → w'.cell? (ad.add (k * 6)) = some (.int .i32 n1) ∧ w'.cell? ⟨(ad.add (k * 6)).block, (ad.add (k * 6)).off + 1, none⟩ = some (.string ⟨S1.toArray⟩) ∧ w'.cell? ⟨(ad.add (k * 6)).block, (ad.add (k * 6)).off + 2, none⟩ = some (.slice A1 l1.length c1) ∧ w'.cell? ⟨(ad.add (k * 6)).block, (ad.add (k * 6)).off + 3, none⟩ = some (.bool b1) ∧ w'.cell? ⟨(ad.add (k * 6)).block, (ad.add (k * 6)).off + 4, none⟩ = some (.bool cut1) ∧ w'.cell? ⟨(ad.add (k * 6)).block, (ad.add (k * 6)).off + 5, none⟩ = some (.bool wide1)) := fun w' hb => by
          obtain ⟨d0, d1, d2, d3, d4, d5⟩ := HD.out _ (KR.out _ hb).bl
          exact ⟨d0, d1, d2, d3, d4, d5⟩
        go_cut [10, 11] (fun s10 s11 wx => ∃ g1 g3 : Nat, s10 = .pointer (some ⟨g1, 0, none⟩) ∧ s11 = .pointer (some ⟨g3, 0, none⟩) ∧ g1 ≠ g3 ∧ wr.heap.size ≤ g1 ∧ wr.heap.size ≤ g3 ∧ Below wr.heap.size wr wx ∧ Blk wx g1 40 #[.int .i32 n1, .string ⟨S1.toArray⟩, .slice A1 l1.length c1, .bool b1, .bool cut1, .bool wide1] ∧ Blk wx g3 40 #[.int .i32 n1, .string ⟨S1.toArray⟩, .slice A1 l1.length c1, .bool b1, .bool cut1, .bool wide1])
        case first =>
          have TW := Lib.hid (two_acts wr #[.int .i32 n1, .string ⟨S1.toArray⟩, .slice A1 l1.length c1, .bool b1, .bool cut1, .bool wide1])
          go_region_held3 (fun w' => w'.cell? (ad.add (k * 6)) = some (.int .i32 n1) ∧ w'.cell? ⟨(ad.add (k * 6)).block, (ad.add (k * 6)).off + 1, none⟩ = some (.string ⟨S1.toArray⟩) ∧ w'.cell? ⟨(ad.add (k * 6)).block, (ad.add (k * 6)).off + 2, none⟩ = some (.slice A1 l1.length c1) ∧ w'.cell? ⟨(ad.add (k * 6)).block, (ad.add (k * 6)).off + 3, none⟩ = some (.bool b1) ∧ w'.cell? ⟨(ad.add (k * 6)).block, (ad.add (k * 6)).off + 4, none⟩ = some (.bool cut1) ∧ w'.cell? ⟨(ad.add (k * 6)).block, (ad.add (k * 6)).off + 5, none⟩ = some (.bool wide1))
            ((refine KC.out _ ?_; (repeat (first | assumption | exact Below.refl _ _ | refine belowG_dr ?_ | refine belowG_al ?_ (Nat.le_refl _) | (refine Below.setCell ?_ ?_ _; rotate_left; (first | focus (simp; done) | focus (simp; omega))))); done))
            (fail)
          all_goals
            go_wp2_with fail
            go_meet
            first
              | exact ⟨wr.heap.size, wr.heap.size + 1, rfl, rfl, by omega, by omega, by omega, TW.out.1, TW.out.2.1, TW.out.2.2⟩
              | exact ⟨wr.heap.size + 1, wr.heap.size, rfl, rfl, by omega, by omega, by omega, TW.out.1, TW.out.2.2, TW.out.2.1⟩
        case rest =>
          obtain ⟨g1, g3, rfl, rfl, hg13, hg1, hg3, bx, x1, x3⟩ := hcut
          have BX := Lib.hid bx
          have X1 := Lib.hid (grow_blk x1)
          have X3 := Lib.hid (grow_blk x3)
          clear bx x1 x3 KC
          obtain ⟨d0, d1, d2, d3, d4, d5⟩ := six_cells X1.out.now
          by_cases hf : S1.length ≤ 5000 ∧ l1.length ≤ 5000
          · go_upto_region 13 with (go_at_call 9; refine (lawFits_any S1 hS l1 hl A1 c1 _).mono ?_; rw [decide_eq_true hf]; rintro e w4 ⟨rfl, b4⟩; replace X1 := Lib.hid (X1.out.step b4); replace X3 := Lib.hid (X3.out.step b4); replace BX := Lib.hid (BX.out.trans (b4.mono BX.out.size)); clear d0 d1 d2 d3 d4 d5 b4; obtain ⟨d0, d1, d2, d3, d4, d5⟩ := six_cells X1.out.now)
            obtain ⟨_, v1, v2, _, _, _⟩ := six_cells X3.out.now
            have f1 := X3.out.now.frozen 1
            have f2 := X3.out.now.frozen 2
            obtain ⟨S2, hS2⟩ : ∃ S2, otherOf S1 l1 y O = S2 := ⟨_, rfl⟩
            have HO2 := Lib.hid (other_like (S := S1) (l := l1) (y := y) (O := O))
            have hS2l : S2.length = S1.length := by rw [← hS2]; exact otherOf_len ..
            rw [hS2] at HO2
            have HS2 := Lib.hid hS2
            clear hS2
            go_upto_region 14 with (go_at_call 17; refine (refTOther_any A1 c1 _ S1 l1 y hy O hO _ (Nat.le_refl _) (hTX.out _ ((KR.out _ BX.out).bl))).mono ?_; rw [HS2.out]; rintro e w5 ⟨rfl, b5⟩; replace X1 := Lib.hid (X1.out.step b5); replace X3 := Lib.hid (X3.out.step b5); replace BX := Lib.hid (BX.out.trans (b5.mono BX.out.size)); clear d0 d1 d2 d3 d4 d5 v1 v2 f1 f2 b5; obtain ⟨d0, d1, d2, d3, d4, d5⟩ := six_cells X1.out.now; obtain ⟨_, v1, v2, _, _, _⟩ := six_cells X3.out.now; have f1 := X3.out.now.frozen 1; have f2 := X3.out.now.frozen 2)
            have Y1 := Lib.hid ((X1.out.now.far (p := ⟨g3, 1, none⟩) hg13 (.string ⟨S2.toArray⟩)).far (p := ⟨g3, 2, none⟩) hg13 (.slice A1 l1.length c1))
            have Y3 := Lib.hid (act_set X3.out.now (.string ⟨S2.toArray⟩) (.slice A1 l1.length c1))
            have BY := Lib.hid ((BX.out.setCell (p := ⟨g3, 1, none⟩) hg3 (.string ⟨S2.toArray⟩)).setCell (p := ⟨g3, 2, none⟩) hg3 (.slice A1 l1.length c1))
            clear d0 d1 d2 d3 d4 d5 v1 v2 f1 f2 X1 X3 BX
            generalize (w5.setCell ⟨g3, 1, none⟩ (.string ⟨S2.toArray⟩)).setCell ⟨g3, 2, none⟩ (.slice A1 l1.length c1) = w6 at *
            have KB := Lib.hid (KR.out _ BY.out)
            have hgr := KR.out.now.one.tch
            have hgr2 := KR.out.now.two.tch
            have hnp : ∀ k, wr.heap.size ≤ k → ¬ (k = g ∨ k = g2) := fun k hk hp => by rcases hp with hp | hp <;> omega
            have KC : Hid (∀ wz, Tch (fun k => k = g ∨ k = g2) w6 wz → (wz.cell? ⟨g1, 0, none⟩ = some (.int .i32 n1) ∧ wz.cell? ⟨g1, 1, none⟩ = some (.string ⟨S1.toArray⟩) ∧ wz.cell? ⟨g1, 2, none⟩ = some (.slice A1 l1.length c1) ∧ wz.cell? ⟨g1, 3, none⟩ = some (.bool b1) ∧ wz.cell? ⟨g1, 4, none⟩ = some (.bool cut1) ∧ wz.cell? ⟨g1, 5, none⟩ = some (.bool wide1)) ∧ (wz.cell? ⟨g3, 0, none⟩ = some (.int .i32 n1) ∧ wz.cell? ⟨g3, 1, none⟩ = some (.string ⟨S2.toArray⟩) ∧ wz.cell? ⟨g3, 2, none⟩ = some (.slice A1 l1.length c1) ∧ wz.cell? ⟨g3, 3, none⟩ = some (.bool b1) ∧ wz.cell? ⟨g3, 4, none⟩ = some (.bool cut1) ∧ wz.cell? ⟨g3, 5, none⟩ = some (.bool wide1))) := fun wz ht => ⟨six_cells (Y1.out.tch ht (hnp _ hg1)), six_cells (Y3.out.tch ht (hnp _ hg3))⟩
            have hB6 : Hid (∀ wz, Tch (fun k => k = g ∨ k = g2) w6 wz → Below w.heap.size w wz) := fun wz ht => KB.out.bl.trans (ht.below KB.out.bl.size (fun k hk => by rcases hk with hk | hk <;> omega))
            have hT2 : Hid (∀ wz, Tch (fun k => k = g ∨ k = g2) w6 wz → Txu wz A1 S2 l1) := fun wz ht => by
              have h := hTX.out wz (hB6.out wz ht)
              exact ⟨by rw [hS2l]; exact h.hS, h.hf, h.hl, h.row⟩
            have TR : Hid (∀ wz r2, StG w6 wz g g2 R r2 → Calls Try.prog 14 #[.pointer (some ⟨g, 0, none⟩), .agg #[.int .i32 n1, .string ⟨S1.toArray⟩, .slice A1 l1.length c1, .bool b1, .bool cut1, .bool wide1]] wz fun e w' => e = .returned (.int .i64 ((doesR R n1 S1 l1 b1 cut1 wide1).2 : Nat)) ∧ StG w6 w' g g2 (doesR R n1 S1 l1 b1 cut1 wide1).1 r2) := fun wz r2 h => h.left hne hn1 A1 c1 b1 cut1 wide1 (hTX.out _ (hB6.out _ h.tch))
            have TQ : Hid (∀ wz r1, StG w6 wz g g2 r1 R' → Calls Try.prog 14 #[.pointer (some ⟨g2, 0, none⟩), .agg #[.int .i32 n1, .string ⟨S2.toArray⟩, .slice A1 l1.length c1, .bool b1, .bool cut1, .bool wide1]] wz fun e w' => e = .returned (.int .i64 ((doesR R' n1 S2 l1 b1 cut1 wide1).2 : Nat)) ∧ StG w6 w' g g2 r1 (doesR R' n1 S2 l1 b1 cut1 wide1).1) := fun wz r1 h => h.right hne hn1 A1 c1 b1 cut1 wide1 (hT2.out _ h.tch)
            obtain ⟨e1, e2⟩ := AL.out.does KB.out.one.ok KB.out.two.ok n1 HO2.out.1 HO2.out.2 b1 cut1 wide1
            have E2 := Lib.hid e2
            have Q0 : Hid (StG w6 w6 g g2 R R') := ⟨KB.out.one, KB.out.two, Tch.refl _ _⟩
            have Q : Hid (StG w6 (w6.drewN 1) g g2 R R') := StG.start KB.out.one KB.out.two 1
            generalize doesR R n1 S1 l1 b1 cut1 wide1 = V1 at *
            generalize doesR R' n1 S2 l1 b1 cut1 wide1 = V2 at *
            obtain ⟨R1, k1⟩ := V1
            obtain ⟨R2, k2⟩ := V2
            dsimp only at e1 e2 TR TQ E2
            subst e1
            have hkk : (((k1 : Nat) : Int) != (k1 : Nat)) = false := by simp
            clear e2 Y1 Y3
            go_cut [68] (fun s68 wx => s68 = .bool false ∧ StG w6 wx g g2 R1 R2)
            case first =>
              go_region_held3 (fun wz => (wz.cell? ⟨g1, 0, none⟩ = some (.int .i32 n1) ∧ wz.cell? ⟨g1, 1, none⟩ = some (.string ⟨S1.toArray⟩) ∧ wz.cell? ⟨g1, 2, none⟩ = some (.slice A1 l1.length c1) ∧ wz.cell? ⟨g1, 3, none⟩ = some (.bool b1) ∧ wz.cell? ⟨g1, 4, none⟩ = some (.bool cut1) ∧ wz.cell? ⟨g1, 5, none⟩ = some (.bool wide1)) ∧ (wz.cell? ⟨g3, 0, none⟩ = some (.int .i32 n1) ∧ wz.cell? ⟨g3, 1, none⟩ = some (.string ⟨S2.toArray⟩) ∧ wz.cell? ⟨g3, 2, none⟩ = some (.slice A1 l1.length c1) ∧ wz.cell? ⟨g3, 3, none⟩ = some (.bool b1) ∧ wz.cell? ⟨g3, 4, none⟩ = some (.bool cut1) ∧ wz.cell? ⟨g3, 5, none⟩ = some (.bool wide1)))
                (first | exact KC.out _ QY.out.tch | exact KC.out _ QX.out.tch | exact KC.out _ Q.out.tch | exact KC.out _ Q0.out.tch)
                (first
                  | (go_at_call 14; refine use_factG QX.out ?_; intro qq; refine (TQ.out _ R1 ?_).mono ?_; exact qq; rintro e w'' ⟨rfl, q⟩; have QY := Lib.hid q; clear q qq QX)
                  | (go_at_call 14; refine use_factG Q.out ?_; intro qq; refine (TR.out _ R' ?_).mono ?_; exact qq; rintro e w' ⟨rfl, q⟩; have QX := Lib.hid q; clear q qq))
              all_goals
                go_wp2_with fail
                go_meet
                exact ⟨rfl, QY.out⟩
            case rest =>
              obtain ⟨rfl, q⟩ := hcut
              have BE := Lib.hid (hB6.out _ q.tch)
              have QE := Lib.hid q
              clear q
              go_wp2_with fail
              go_roundw
              case rel => exact ⟨k + 1, by omega, by omega, by go_num, R1, R2, ⟨QE.out.one, QE.out.two, BE.out⟩, E2.out⟩
              case measure => simp [intOf]; omega
          · go_wp2_with (go_at_call 9; refine (lawFits_any S1 hS l1 hl A1 c1 _).mono ?_; rw [decide_eq_false hf]; rintro e w4 ⟨rfl, b4⟩; replace BX := Lib.hid (BX.out.trans (b4.mono BX.out.size)); clear b4)
            go_roundw
            case rel => exact ⟨k + 1, by omega, by omega, by go_num, R, R', KR.out _ BX.out, AL.out⟩
            case measure => simp [intOf]; omega
      · have hout : (¬ (k : Int) < (acs.length : Int)) ∨ ((k : Int) < (acs.length : Int) ∧ ¬ (k : Int) < 40) := by omega
        obtain ⟨wo, rfl⟩ : ∃ wo, wo = wr := ⟨_, rfl⟩
        have hO1 := Lib.hid KR.out.now.one.ok
        have hO2 := Lib.hid KR.out.now.two.ok
        rcases hout with hx | ⟨hx, hx40⟩
        all_goals
          go_wp2_with ((with_reducible refine at_range 9 _ ?_); refine wpList_rangeStr rfl 9 _ rfl Try.underlying9 namesL rfl ?_; intro w6 gi hgi hit6 bi)
          try go_frame
          go_loopw [] (fun wz => ∃ q : Nat, q ≤ 38 ∧ Iter wz gi namesL q ∧ Below wo.heap.size wo wz) (fun wz => 38 - wz.iterPos gi)
          case atStart => exact ⟨0, by omega, hit6, bi⟩
          case round =>
            clear hit6 bi
            obtain ⟨q, hq, hit, hb⟩ := hrel
            have HIP : Hid (wr.iterPos gi = q) := Lib.hid (show wr.iterPos gi = q by unfold World.iterPos; rw [hit])
            by_cases hlt : q < 38
            · have hd := names_dec q hlt
              have hnb := name_bound q hlt
              go_upto_region 19 with ((with_reducible refine at_next _ true ?_); refine wpList_nextStr rfl _ rfl gi rfl namesL q hit hlt ?_; intro w7 hit7 hg7; rw [hd] at hit7; rw [hd])
              have b7 : Below wo.heap.size wo w7 := hb.grown hg7 hb.size (fun k hk => by injection hk with hk; omega)
              have K7 := Lib.hid ((KR.out.step b7).and ((show Grow w7 (fun w' => Below wo.heap.size wo w') from fun w' h => b7.trans (h.mono b7.size)).and (show Grow w7 (fun w' => Iter w' gi namesL (q + 1)) from fun w' h => hit7.below h hit7.lt)))
              clear hit hb hit7 hg7 b7 hd
              obtain ⟨a1, a2, a3⟩ := AL.out.get hO1.out hO2.out (nameN q)
              have t1 := getR_txt hO1.out (nameN q)
              have t2 := getR_txt hO2.out (nameN q)
              obtain ⟨⟨rp, ek⟩, hgr⟩ : ∃ v, getR R (nameN q) = v := ⟨_, rfl⟩
              obtain ⟨⟨rq, el⟩, hgs⟩ : ∃ v, getR R' (nameN q) = v := ⟨_, rfl⟩
              rw [hgr, hgs] at a1 a2 a3
              rw [hgr] at t1
              rw [hgs] at t2
              dsimp only at a1 a2 a3 t1 t2
              subst a1
              have HGR := Lib.hid hgr
              have HGS := Lib.hid hgs
              have T1 := Lib.hid t1
              have T2 := Lib.hid t2
              have A3 := Lib.hid a3
              have A2 := Lib.hid a2
              clear hgr hgs t1 t2 a3 a2
              go_upto_region 20 with (go_at_call 12; refine (rgGet_any K7.out.now.1.one (nameN q) hnb).mono ?_; rw [HGR.out]; rintro e w8 ⟨A8, c8, rfl, own8, b8⟩; replace K7 := Lib.hid (K7.out.step b8); have O8 := Lib.hid (grow_rowG (rowG_own own8)); clear own8 b8)
              have K9 := Lib.hid ((boxN w8 #[.string ⟨rp.S.toArray⟩, .slice A8 rp.l.length c8, .bool rp.lines] 33).and ((O8.out.and K7.out).alloc _))
              clear K7 O8
              generalize w8.alloc (.cells #[.string ⟨rp.S.toArray⟩, .slice A8 rp.l.length c8, .bool rp.lines] 33) = w9 at *
              go_upto_region 21 with (go_at_call 12; refine (rgGet_any K9.out.now.2.2.1.two (nameN q) hnb).mono ?_; rw [HGS.out]; rintro e w10 ⟨A10, c10, rfl, own10, b10⟩; replace K9 := Lib.hid (K9.out.step b10); have O10 := Lib.hid (grow_rowG (rowG_own own10)); clear own10 b10)
              have KB := Lib.hid ((boxN w10 #[.string ⟨rq.S.toArray⟩, .slice A10 rq.l.length c10, .bool rq.lines] 33).and ((O10.out.and K9.out).alloc _))
              clear K9 O10
              generalize w10.alloc (.cells #[.string ⟨rq.S.toArray⟩, .slice A10 rq.l.length c10, .bool rq.lines] 33) = w11 at *
              have a2 := A2.out
              rw [← a2] at KB
              clear a2
              obtain ⟨y0, y1, y2⟩ := en_cells KB.out.now.1.1
              obtain ⟨z0, z1, z2⟩ := en_cells KB.out.now.2.2.1.1
              have hee : (((ek : Nat) : Int) != (ek : Nat)) = false := by simp
              have hll : (rp.lines != rp.lines) = false := by simp
              go_wp2_with (go_at_call 18; refine (refTLow_any A8 A10 c8 c10 _ _ rp.S rq.S rp.l rq.l y hy _ (Nat.le_refl _) (Nat.le_refl _) ⟨T1.out.1, T1.out.2.1, T1.out.2.2, KB.out.now.2.2.2.1.row⟩ ⟨T2.out.1, T2.out.2.1, T2.out.2.2, KB.out.now.2.1.row⟩).mono ?_; rw [A3.out]; rintro e w12 ⟨rfl, b12⟩; replace KB := Lib.hid (KB.out.step b12); clear b12)
              have hip2 : w12.iterPos gi = q + 1 := by unfold World.iterPos; rw [KB.out.now.2.2.2.2.2.2]
              rw [HIP.out, hip2]
              exact ⟨⟨q + 1, by omega, KB.out.now.2.2.2.2.2.2, KB.out.now.2.2.2.2.2.1⟩, by omega⟩
            · go_wp2_with ((with_reducible refine at_next _ true ?_); refine wpList_nextEnd rfl _ rfl gi rfl namesL q hit hlt ?_)
              go_ret
              exact ⟨rfl, (KR.out _ hb).bl⟩
end Go.Proofs.Ytcpijnoabipefaa

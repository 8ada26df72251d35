/-
  The landed Parse goes through keys as the document's grammar does; package gram says what its document does: layer 11.
-/
import Derived.Test.YtbfedakncdodcaaGrStep
import Derived.Test.YtbfedakncdodcaaGrSays
namespace Go.Proofs.Ytbfedakncdodcaa
open Go.RowKit

theorem cell_tmp2 {fn : Func} {p q u : Tmp} {ty : TypeId} (h : fn.results = #[.cell p ty, .tmp q, .tmp u]) (tmps : Array Value) (P : Program) (w : World) :
    (results fn tmps).run P w =
      ((asAddr (tmps.getD p undef)).run P w).andThen fun a w₁ => ((loadVar ty a).run P w₁).andThen fun v w₂ => .ok (.tuple #[v, tmps.getD q undef, tmps.getD u undef]) w₂ := by
  simp only [results, h]
  simp [Sem.run_bind, Result.andThen]
theorem gcmd_facts : (∃ fs, Try.prog.underlying 27 = some (.struct fs)) ∧ (Try.prog.info? 27).map (·.size) = some 5 := ⟨⟨_, Try.underlying27⟩, by kernel_rfl⟩
theorem ret_gcmd1 {fn : Func} {p : Tmp} (h : fn.results = #[.cell p 27]) (a : Act) (w : World) (g : Nat) (q r s t v : Value) (hp : a.tmps.getD p undef = .pointer (some ⟨g, 0, none⟩)) (hg : Blk w g 27 #[q, r, s, t, v]) (hd : a.defers = [])
    {Q : Ending → World → Prop} (hQ : Q (.returned (.agg #[q, r, s, t, v])) w) : bodyPost Try.prog fn Q .ret a w := by
  obtain ⟨⟨fs, hu⟩, hi⟩ := gcmd_facts
  exact bodyPost_ret (results_cell_row h a.tmps w g 27 #[q, r, s, t, v] (0, 0) _ hp hg hu rfl hi) hd hQ
theorem ret_gcmd3 {fn : Func} {p q2 u : Tmp} (h : fn.results = #[.cell p 27, .tmp q2, .tmp u]) (a : Act) (w : World) (g : Nat) (q r s t v : Value) (hp : a.tmps.getD p undef = .pointer (some ⟨g, 0, none⟩)) (hg : Blk w g 27 #[q, r, s, t, v]) (hd : a.defers = [])
    {Q : Ending → World → Prop} (hQ : Q (.returned (.tuple #[.agg #[q, r, s, t, v], a.tmps.getD q2 undef, a.tmps.getD u undef])) w) : bodyPost Try.prog fn Q .ret a w := by
  obtain ⟨⟨fs, hu⟩, hi⟩ := gcmd_facts
  refine bodyPost_ret (v := .tuple #[.agg #[q, r, s, t, v], a.tmps.getD q2 undef, a.tmps.getD u undef]) ?_ hd hQ
  have hp' : a.tmps[p]?.getD undef = .pointer (some ⟨g, 0, none⟩) := by simpa using hp
  rw [cell_tmp2 h]
  simp [hp', asAddr, run_loadVar_row w g 27 27 #[q, r, s, t, v] (0, 0) _ hg hu rfl hi]

theorem cmd_var {w : World} {g T : Nat} {q r s t v : Value} (h : Blk w g T #[q, r, s, t, v]) :
    (w.cell? ⟨g, 0, none⟩ = some q ∧ w.cell? ⟨g, 1, none⟩ = some r ∧ w.cell? ⟨g, 2, none⟩ = some s ∧ w.cell? ⟨g, 3, none⟩ = some t ∧ w.cell? ⟨g, 4, none⟩ = some v ∧ w.frozen? ⟨g, 0, none⟩ = false ∧ w.frozen? ⟨g, 1, none⟩ = false ∧ w.frozen? ⟨g, 2, none⟩ = false ∧ w.frozen? ⟨g, 3, none⟩ = false ∧ w.frozen? ⟨g, 4, none⟩ = false) ∧
    ∀ a b c d e : Value, Blk (((((w.setCell ⟨g, 0, none⟩ a).setCell ⟨g, 1, none⟩ b).setCell ⟨g, 2, none⟩ c).setCell ⟨g, 3, none⟩ d).setCell ⟨g, 4, none⟩ e) g T #[a, b, c, d, e] :=
  ⟨⟨h.cell 0, h.cell 1, h.cell 2, h.cell 3, h.cell 4, h.frozen 0, h.frozen 1, h.frozen 2, h.frozen 3, h.frozen 4⟩, fun a b c d e => by
    have := ((((h.set_ 0 a).set_ 1 b).set_ 2 c).set_ 3 d).set_ 4 e
    simpa using this⟩
theorem set_five {w0 w : World} {B g : Nat} (h : Below B w0 w) (a b c d e : Value) (hg : B ≤ g := by omega) : Below B w0 (((((w.setCell ⟨g, 0, none⟩ a).setCell ⟨g, 1, none⟩ b).setCell ⟨g, 2, none⟩ c).setCell ⟨g, 3, none⟩ d).setCell ⟨g, 4, none⟩ e) :=
  ((((h.setCell (p := ⟨g, 0, none⟩) hg a).setCell (p := ⟨g, 1, none⟩) hg b).setCell (p := ⟨g, 2, none⟩) hg c).setCell (p := ⟨g, 3, none⟩) hg d).setCell (p := ⟨g, 4, none⟩) hg e
def cmdV (c : CmdG) : Value := .agg #[.int .i32 c.reg, .int .i64 c.count, .int .i32 c.verb, .int .i32 c.move, .int .i32 c.arg]
set_option maxHeartbeats 1000000 in
theorem gramCommand_any (s : PsG) (ho : 0 ≤ s.outer ∧ s.outer ≤ 999) (hi : 0 ≤ s.inner ∧ s.inner ≤ 999) (P : Nat) (w : World) (h : IsP w P s) :
    Calls Try.prog 18 #[.pointer (some ⟨P, 0, none⟩)] w fun e w' => e = .returned (cmdV (doneL s)) ∧ Below w.heap.size w w' := by
  have HT := Lib.hid (fun w => gramProduct_any s.outer s.inner ho hi w)
  have z := h.lt
  have y1 : w.cell? ⟨P, 1, none⟩ = some (.int .i32 s.reg) := Blk.cell h 1
  have y2 : w.cell? ⟨P, 2, none⟩ = some (.int .i64 0) := Blk.cell h 2
  have y3 : w.cell? ⟨P, 3, none⟩ = some (.int .i32 s.verb) := Blk.cell h 3
  have y4 : w.cell? ⟨P, 4, none⟩ = some (.int .i32 s.move) := Blk.cell h 4
  have y5 : w.cell? ⟨P, 5, none⟩ = some (.int .i32 s.arg) := Blk.cell h 5
  have HP := Lib.hid h
  clear h
  unfold doneL
  generalize timesG s.outer s.inner = tm at *
  go_enter Try.func18, Try.ntmps18
  go_upto_region 2 with fail
  have b1 : Below w.heap.size w (w.alloc (.cells #[.int .i32 0, .int .i64 0, .int .i32 0, .int .i32 0, .int .i32 0] 27)) := (Below.refl _ w).alloc (Nat.le_refl _) _
  have B1 := Lib.hid (b1.alloc b1.size (.cells #[.int .i32 s.reg, .int .i64 0, .int .i32 s.verb, .int .i32 s.move, .int .i32 s.arg] 27))
  have R1 := Lib.hid ((Blk.new w 27 #[.int .i32 0, .int .i64 0, .int .i32 0, .int .i32 0, .int .i32 0]).alloc (.cells #[.int .i32 s.reg, .int .i64 0, .int .i32 s.verb, .int .i32 s.move, .int .i32 s.arg] 27))
  have C1 := Blk.new (w.alloc (.cells #[.int .i32 0, .int .i64 0, .int .i32 0, .int .i32 0, .int .i32 0] 27)) 27 #[.int .i32 s.reg, .int .i64 0, .int .i32 s.verb, .int .i32 s.move, .int .i32 s.arg]
  rw [World.size_alloc] at C1
  replace C1 := Lib.hid C1
  generalize (w.alloc (.cells #[.int .i32 0, .int .i64 0, .int .i32 0, .int .i32 0, .int .i32 0] 27)).alloc (.cells #[.int .i32 s.reg, .int .i64 0, .int .i32 s.verb, .int .i32 s.move, .int .i32 s.arg] 27) = wa at *
  clear y1 y2 y3 y4 y5 b1
  have HPa : IsP wa P s := HP.out.below B1.out
  have y6 : wa.cell? ⟨P, 6, none⟩ = some (.int .i64 s.outer) := Blk.cell HPa 6
  have y7 : wa.cell? ⟨P, 7, none⟩ = some (.int .i64 s.inner) := Blk.cell HPa 7
  clear HPa
  refine wp_region_still_tail 10 (by kernel_rfl) (by kernel_rfl) ?_
  simp only [List.take_succ_cons, List.take_zero, List.drop_succ_cons, List.drop_zero]
  still_step
  still_step
  still_step
  still_step
  still_step
  still_step
  still_step
  still_step
  still_call (HT.out _)
  still_step
  refine wpStill_nil ?_
  change wpList _ _ _ _ _ wa.drew
  have B2 : Hid (Below w.heap.size w wa.drew) := below_drewN B1.out 1
  have R2 : Hid (Blk wa.drew w.heap.size 27 #[.int .i32 0, .int .i64 0, .int .i32 0, .int .i32 0, .int .i32 0]) := R1.out
  have c2 : Blk wa.drew (w.heap.size + 1) 27 #[.int .i32 s.reg, .int .i64 0, .int .i32 s.verb, .int .i32 s.move, .int .i32 s.arg] := C1.out
  clear B1 R1 C1 y6 y7
  generalize wa.drew = wb at *
  have y1 : wb.cell? ⟨w.heap.size + 1, 1, none⟩ = some (.int .i64 0) := c2.cell 1
  have yz : wb.frozen? ⟨w.heap.size + 1, 1, none⟩ = false := c2.frozen 1
  have C3 := Lib.hid (c2.set_ 1 (.int .i64 tm))
  have B3 := Lib.hid (B2.out.setCell (p := ⟨w.heap.size + 1, 1, none⟩) (by simp) (.int .i64 tm))
  have R3 := Lib.hid (R2.out.far (p := ⟨w.heap.size + 1, 1, none⟩) (by simp) (.int .i64 tm))
  clear B2 R2 c2
  go_upto_region 3 with fail
  generalize wb.setCell ⟨w.heap.size + 1, 1, none⟩ (.int .i64 tm) = wc at *
  clear y1 yz
  have c3 : Blk wc (w.heap.size + 1) 27 #[.int .i32 s.reg, .int .i64 tm, .int .i32 s.verb, .int .i32 s.move, .int .i32 s.arg] := C3.out
  obtain ⟨x0, x1, x2, x3, x4⟩ := (⟨c3.cell 0, c3.cell 1, c3.cell 2, c3.cell 3, c3.cell 4⟩ : wc.cell? ⟨w.heap.size + 1, 0, none⟩ = some (.int .i32 s.reg) ∧ wc.cell? ⟨w.heap.size + 1, 1, none⟩ = some (.int .i64 tm) ∧ wc.cell? ⟨w.heap.size + 1, 2, none⟩ = some (.int .i32 s.verb) ∧ wc.cell? ⟨w.heap.size + 1, 3, none⟩ = some (.int .i32 s.move) ∧ wc.cell? ⟨w.heap.size + 1, 4, none⟩ = some (.int .i32 s.arg))
  clear c3 C3
  obtain ⟨v, BV⟩ := cmd_var R3.out
  obtain ⟨v0, v1, v2, v3, v4, f0, f1, f2, f3, f4⟩ := v
  go_wp2_with fail
  refine ret_gcmd1 rfl _ _ w.heap.size _ _ _ _ _ rfl (BV _ _ _ _ _) rfl ?_
  exact ⟨rfl, set_five B3.out _ _ _ _ _⟩
theorem gramStep_any (s : PsG) (hs : OkL s) (k : Int) (P : Nat) (w : World) (h : IsP w P s) :
    Calls Try.prog (fnG s.md) #[.pointer (some ⟨P, 0, none⟩), .int .i32 k] w (GivesPG P w (stepL s k)) := by
  obtain ⟨v, reg, verb, move, arg, outer, inner, md⟩ := s
  have ho := hs.1
  have hi := hs.2.1
  cases md with
  | begin_ => exact gramBegin_any _ k P w h ho
  | register => exact gramRegister_any _ k P w h
  | verb => exact gramVerb_any _ k P w h ho
  | target => exact gramTarget_any _ k P w h hi
  | second => exact gramSecond_any _ k P w h
  | character => exact gramCharacter_any _ k P w h
  | macro_ => exact gramMacro_any _ k P w h
  | object => exact gramObject_any _ k P w h
theorem ok_start (v : Bool) : OkL (ps0 v) := ⟨⟨Int.le_refl 0, (by decide : (0 : Int) ≤ 999)⟩, ⟨Int.le_refl 0, (by decide : (0 : Int) ≤ 999)⟩, rfl, rfl, rfl, rfl, rfl, rfl⟩
theorem fn_enters (m : MdG) (args : Array Value) (w : World) : Sem.run Try.prog (callFunc (fnG m) args) w = .ok (.enter (fnG m) args) w := by
  cases m <;> rfl
theorem runG_last {v : Bool} {s : StG} {k : Int} {l : List Int} {n : Nat} {r : CmdG × Nat × Nat} (h : runG v s (k :: l) n = r) : match stepG v s k with | .go t => runG v t l (n + 1) = r | .done c => r = (c, n + 1, 1) | .bad => r = (cmd0, n + 1, 3) := by
  rcases hs : stepG v s k with t | c | _
  · rw [runG_go hs] at h; exact h
  · rw [runG_done hs] at h; exact h.symm
  · rw [runG_bad hs] at h; exact h.symm
set_option maxHeartbeats 4000000 in
set_option maxRecDepth 100000 in
theorem gramParse_any (A : Option Addr) (c B : Nat) (zs : List Int) (v : Bool) (w : World) (hB : B ≤ w.heap.size) (hz : ∀ z ∈ zs, -2147483648 ≤ z ∧ z ≤ 2147483647) (hl : zs.length ≤ 1000000) (h : Row w B A (zs.map runz)) :
    Calls Try.prog 12 #[.slice A zs.length c, .bool v] w (GivesCG w (parseG zs v)) := by
  have hmf : ∀ (fn : Fn) (first cap : Array Value) (w : World), (Instr.makeFunc fn first cap).run Try.prog w = .ok (.func fn first cap) w := fun _ _ _ _ => rfl
  have hfn := fn_enters
  have HR0 : Hid (runG v (absG (ps0 v)) (zs.drop 0) 0 = parseG zs v) := rfl
  go_enter Try.func12, Try.ntmps12
  go_upto_region 4 with fail
  have b1 : Below w.heap.size w (w.alloc (.cells #[.int .i32 0, .int .i64 0, .int .i32 0, .int .i32 0, .int .i32 0] 27)) := (Below.refl _ w).alloc (Nat.le_refl _) _
  have B1 := Lib.hid (b1.alloc b1.size (.cells (parC (ps0 v) (nxtG (w.heap.size + 1) (fnG .begin_))) 43))
  have R1 := Lib.hid ((Blk.new w 27 #[.int .i32 0, .int .i64 0, .int .i32 0, .int .i32 0, .int .i32 0]).alloc (.cells (parC (ps0 v) (nxtG (w.heap.size + 1) (fnG .begin_))) 43))
  have P1 := Blk.new (w.alloc (.cells #[.int .i32 0, .int .i64 0, .int .i32 0, .int .i32 0, .int .i32 0] 27)) 43 (parC (ps0 v) (nxtG (w.heap.size + 1) (fnG .begin_)))
  rw [World.size_alloc] at P1
  replace P1 : Hid (IsP ((w.alloc (.cells #[.int .i32 0, .int .i64 0, .int .i32 0, .int .i32 0, .int .i32 0] 27)).alloc (.cells (parC (ps0 v) (nxtG (w.heap.size + 1) (fnG .begin_))) 43)) (w.heap.size + 1) (ps0 v)) := P1
  change Code.wp _ _ _ _ ((w.alloc (.cells #[.int .i32 0, .int .i64 0, .int .i32 0, .int .i32 0, .int .i32 0] 27)).alloc (.cells (parC (ps0 v) (nxtG (w.heap.size + 1) (fnG .begin_))) 43))
  generalize (w.alloc (.cells #[.int .i32 0, .int .i64 0, .int .i32 0, .int .i32 0, .int .i32 0] 27)).alloc (.cells (parC (ps0 v) (nxtG (w.heap.size + 1) (fnG .begin_))) 43) = wa at *
  clear b1
  go_loopw [20] (fun i wr => ∃ (n : Nat) (s : PsG), i = .int .i64 n ∧ n ≤ zs.length ∧ OkL s ∧ s.visual = v ∧ Hid (runG v (absG s) (zs.drop n) n = parseG zs v) ∧ Hid (IsP wr (w.heap.size + 1) s) ∧ Hid (Blk wr w.heap.size 27 #[.int .i32 0, .int .i64 0, .int .i32 0, .int .i32 0, .int .i32 0]) ∧ Hid (Below w.heap.size w wr)) (fun i _ => zs.length - (intOf i).toNat)
  case atStart => exact ⟨0, ps0 v, rfl, Nat.zero_le _, ok_start v, rfl, HR0, P1, R1, B1⟩
  case round =>
    clear P1 R1 B1 HR0
    obtain ⟨n, s, rfl, hn, hok, hv, HRN, HP, HB, BB⟩ := hrel
    by_cases hlt : n < zs.length
    · obtain ⟨ad, rfl, hbl, hc⟩ := (h.below (BB.out.mono hB)).map_at hlt
      have hdr : zs.drop n = zs[n] :: zs.drop (n + 1) := List.drop_eq_getElem_cons hlt
      have hr := HRN.out
      rw [hdr] at hr
      have HN := Lib.hid (runG_last hr)
      have HS := Lib.hid (gramStep_any s hok zs[n] (w.heap.size + 1))
      have hsim := sim_step hok zs[n]
      rw [hv] at hsim
      have hs32 := hz zs[n] (List.getElem_mem hlt)
      generalize zs[n] = k at *
      clear hr hdr HRN
      have hmd : wr.cell? ⟨w.heap.size + 1, 8, none⟩ = some (.func (.func (fnG s.md)) #[.pointer (some ⟨w.heap.size + 1, 0, none⟩)] #[]) := HP.out.next
      have hfs := fun args wx => hfn s.md args wx
      have hcv : wr.cell? (ad.add n) = some (.int .i32 k) := hc
      clear hc
      generalize hst : stepL s k = r at *
      obtain ⟨s2, cd⟩ := r
      rcases hsg : stepG v (absG s) k with t | cm | _
      · rw [hsg] at hsim
        have HN2 := HN.out
        rw [hsg] at HN2
        obtain ⟨hcd, hok2, habs, hv2⟩ := hsim
        dsimp only at hcd hok2 habs hv2 HN2
        rw [← habs] at HN2
        have HN3 := Lib.hid HN2
        subst hcd
        have HV2 := Lib.hid hv2
        have HO2 := Lib.hid hok2
        clear HN HN2 habs hsg hst hv2 hok2 hok
        have HHV := Lib.hid hv
        clear hv
        go_wp2_with fail
        refine (HS.out _ HP.out).mono ?_
        rintro e w1 ⟨rfl, HP2, bb⟩
        go_wp2_with fail
        go_roundw
        case rel => exact ⟨n + 1, s2, by go_num, by omega, HO2.out, HV2.out, HN3.out, HP2, HB.out.below bb (by simp), BB.out.trans (bb.mono (by simp))⟩
        case measure => simp [intOf]; omega
      · rw [hsg] at hsim
        have HN2 := HN.out
        rw [hsg] at HN2
        obtain ⟨hcd, rfl, ho2, hi2⟩ := hsim
        dsimp only at hcd HN2 ho2 hi2
        have HN3 := Lib.hid HN2
        subst hcd
        have HC := Lib.hid (gramCommand_any s2 ho2 hi2 (w.heap.size + 1))
        clear HN HN2 hsg hst hok ho2 hi2
        have HHV := Lib.hid hv
        clear hv
        generalize doneL s2 = dn at *
        obtain ⟨d0, d1, d2, d3, d4⟩ := dn
        go_wp2_with fail
        refine (HS.out _ HP.out).mono ?_
        rintro e w1 ⟨rfl, HP2, bb⟩
        have HPP := Lib.hid HP2
        have HBB := Lib.hid (HB.out.below bb (by simp))
        have BBB := Lib.hid (BB.out.trans (bb.mono (by simp)))
        clear HP HB BB HS hmd hcv HP2
        unfold cmdV at HC
        go_wp2_with (go_at_call 18; refine (HC.out _ HPP.out).mono ?_; rintro e w2 ⟨rfl, b2⟩; obtain ⟨⟨v0, v1, v2, v3, v4, f0, f1, f2, f3, f4⟩, BV⟩ := cmd_var (HBB.out.below b2 (HBB.out.lt)); have BB2 := Lib.hid (BBB.out.trans (b2.mono BBB.out.size)))
        refine ret_gcmd3 rfl _ _ w.heap.size _ _ _ _ _ rfl (BV _ _ _ _ _) rfl ?_
        refine ⟨?_, set_five BB2.out _ _ _ _ _⟩
        rw [HN3.out]
        rfl
      · rw [hsg] at hsim
        have HN2 := HN.out
        rw [hsg] at HN2
        have hcd : cd = 3 := hsim
        dsimp only at HN2
        have HN3 := Lib.hid HN2
        subst hcd
        clear HN HN2 hsg hst hok hsim
        have HHV := Lib.hid hv
        clear hv
        go_wp2_with fail
        refine (HS.out _ HP.out).mono ?_
        rintro e w1 ⟨rfl, HP2, bb⟩
        have HBB := HB.out.below bb (by simp)
        have BBB := Lib.hid (BB.out.trans (bb.mono (by simp)))
        obtain ⟨⟨v0, v1, v2, v3, v4, f0, f1, f2, f3, f4⟩, BV⟩ := cmd_var HBB
        clear HP HB BB HS hmd hcv HP2
        go_wp2_with fail
        refine ret_gcmd3 rfl _ _ w.heap.size _ _ _ _ _ rfl (BV _ _ _ _ _) rfl ?_
        refine ⟨?_, set_five BBB.out _ _ _ _ _⟩
        rw [HN3.out]
        rfl
    · have he : n = zs.length := by omega
      have HN3 : Hid (parseG zs v = (cmd0, 0, 2)) := by
        show _ = _
        rw [← HRN.out, he, List.drop_length]
        rfl
      obtain ⟨⟨v0, v1, v2, v3, v4, f0, f1, f2, f3, f4⟩, BV⟩ := cmd_var HB.out
      have HHV := Lib.hid hv
      clear hv HRN hok he
      go_wp2_with fail
      refine ret_gcmd3 rfl _ _ w.heap.size _ _ _ _ _ rfl (BV _ _ _ _ _) rfl ?_
      refine ⟨?_, set_five BB.out _ _ _ _ _⟩
      rw [HN3.out]
      rfl
theorem gramSays : GramSays where
  motion k w _ := gramMotion_any k w
  oper k w _ := gramOper_any k w
  parse A c B zs v w hB hz hl h := gramParse_any A c B zs v w hB hz hl h
end Go.Proofs.Ytbfedakncdodcaa

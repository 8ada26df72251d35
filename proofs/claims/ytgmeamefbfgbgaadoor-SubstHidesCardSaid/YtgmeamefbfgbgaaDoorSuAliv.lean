/-
  The law's own answers of layer 15: fits, ours, alive.
-/
import Derived.Test.YtgmeamefbfgbgaaDoorSuSays
import Derived.Test.YtgmeamefbfgbgaaDoorSuMay
import Derived.Test.YtgmeamefbfgbgaaDoorOpFit
import Derived.Test.YtgmeamefbfgbgaaDoorSuSwap
namespace Go.Proofs.YtgmeamefbfgbgaaDoor
open Go.RowKit
set_option maxRecDepth 100000

def fitS (S : List UInt8) (l : List RunP) (pat rep : List UInt8) : Bool := (decide (S.length ≤ 1024) && decide (l.length ≤ 5000)) && decide (pat.length ≤ 5000) && decide (rep.length ≤ 5000)
theorem fitS_facts {S : List UInt8} {l : List RunP} {pat rep : List UInt8} (h : fitS S l pat rep = true) : S.length ≤ 5000 ∧ l.length ≤ 5000 ∧ pat.length ≤ 5000 ∧ rep.length ≤ 5000 := by
  unfold fitS at h
  simp only [Bool.and_eq_true, decide_eq_true_eq] at h
  omega
set_option maxHeartbeats 2000000 in
theorem lawFitS_any (A : Option Addr) (c : Nat) (S : List UInt8) (l : List RunP) (a b : Int) (pat rep : List UInt8) (ev : Bool) (hp : pat.length ≤ maxLen) (hr : rep.length ≤ maxLen) (w : World) :
    Calls Tryd.prog 10 #[.agg #[.string ⟨S.toArray⟩, .slice A l.length c], .agg #[.int .i64 a, .int .i64 b, .string ⟨pat.toArray⟩, .string ⟨rep.toArray⟩, .bool ev]] w fun e w' => e = .returned (.bool (fitS S l pat rep)) ∧ Below w.heap.size w w' := by
  unfold maxLen at hp hr
  have K := Lib.hid (boxesE2 w 24 28 #[.string ⟨S.toArray⟩, .slice A l.length c] #[.int .i64 a, .int .i64 b, .string ⟨pat.toArray⟩, .string ⟨rep.toArray⟩, .bool ev])
  have HF := Lib.hid (fun wx => lawFits14_any A c S l wx)
  have HE : Hid (fitS S l pat rep = ((decide (S.length ≤ 1024) && decide (l.length ≤ 5000)) && decide (pat.length ≤ 5000) && decide (rep.length ≤ 5000))) := rfl
  have e1 : decide (pat.length ≤ 5000) = decide ((pat.length : Int) ≤ 5000) := decide_eq_decide.2 (by omega)
  have e2 : decide (rep.length ≤ 5000) = decide ((rep.length : Int) ≤ 5000) := decide_eq_decide.2 (by omega)
  rw [e1, e2] at HE
  clear e1 e2
  generalize (decide (S.length ≤ 1024) && decide (l.length ≤ 5000)) = d1 at *
  generalize fitS S l pat rep = d2 at *
  obtain ⟨y0, y1⟩ := txt_cells K.out.now.1
  obtain ⟨x0, x1, x2, x3, x4⟩ := job_cells15 K.out.now.2.1
  go_enter Tryd.func10, Tryd.ntmps10
  go_upto_region 1 with fail
  generalize (w.alloc (.cells #[.string ⟨S.toArray⟩, .slice A l.length c] 24)).alloc (.cells #[.int .i64 a, .int .i64 b, .string ⟨pat.toArray⟩, .string ⟨rep.toArray⟩, .bool ev] 28) = wb at *
  cases d1 with
  | false =>
    go_wp2_with (go_at_call 19; refine (HF.out _).mono ?_; rintro e w1 ⟨rfl, bb⟩; replace K := Lib.hid (K.out.step bb); clear bb)
    go_ret
    exact ⟨by rw [HE.out]; rfl, K.out.now.2.2⟩
  | true =>
    by_cases h1 : (pat.length : Int) ≤ 5000
    · have g1 : decide ((pat.length : Int) ≤ 5000) = true := decide_eq_true h1
      go_wp2_with (go_at_call 19; refine (HF.out _).mono ?_; rintro e w1 ⟨rfl, bb⟩; replace K := Lib.hid (K.out.step bb); clear bb y0 y1 x0 x1 x2 x3 x4; obtain ⟨x0, x1, x2, x3, x4⟩ := job_cells15 K.out.now.2.1)
      go_ret
      exact ⟨by rw [HE.out, g1]; rfl, K.out.now.2.2⟩
    · have g1 : decide ((pat.length : Int) ≤ 5000) = false := decide_eq_false h1
      go_wp2_with (go_at_call 19; refine (HF.out _).mono ?_; rintro e w1 ⟨rfl, bb⟩; replace K := Lib.hid (K.out.step bb); clear bb y0 y1 x0 x1 x2 x3 x4; obtain ⟨x0, x1, x2, x3, x4⟩ := job_cells15 K.out.now.2.1)
      go_ret
      exact ⟨by rw [HE.out, g1]; rfl, K.out.now.2.2⟩
theorem jobR_facts : (∃ fs, Tryd.prog.underlying 38 = some (.struct fs)) ∧ (Tryd.prog.info? 38).map (·.size) = some 5 := ⟨⟨_, Tryd.underlying38⟩, by kernel_rfl⟩
theorem ret_jobR {fn : Func} {p : Tmp} (h : fn.results = #[.cell p 38]) (a : Act) (w : World) (g : Nat) (cs : Array Value) (h5 : cs.size = 5) (hp : a.tmps.getD p undef = .pointer (some ⟨g, 0, none⟩)) (hg : Blk w g 38 cs) (hd : a.defers = [])
    {Q : Ending → World → Prop} (hQ : Q (.returned (.agg cs)) w) : bodyPost Tryd.prog fn Q .ret a w := by
  obtain ⟨⟨fs, hu⟩, hi⟩ := jobR_facts
  exact bodyPost_ret (results_cell_row h a.tmps w g 38 cs (0, 0) _ hp hg hu rfl (by rw [hi, h5])) hd hQ
set_option maxHeartbeats 2000000 in
theorem lawOursS_any (a b : Int) (pat rep : List UInt8) (ev : Bool) (w : World) :
    Calls Tryd.prog 13 #[.agg #[.int .i64 a, .int .i64 b, .string ⟨pat.toArray⟩, .string ⟨rep.toArray⟩, .bool ev]] w fun e w' => e = .returned (.agg #[.int .i64 a, .int .i64 b, .string ⟨pat.toArray⟩, .string ⟨rep.toArray⟩, .bool ev]) ∧ Below w.heap.size w w' := by
  have K := Lib.hid (boxesE2 w 28 38 #[.int .i64 a, .int .i64 b, .string ⟨pat.toArray⟩, .string ⟨rep.toArray⟩, .bool ev] #[.int .i64 0, .int .i64 0, .string ⟨#[]⟩, .string ⟨#[]⟩, .bool false])
  obtain ⟨x0, x1, x2, x3, x4⟩ := job_cells15 K.out.now.1
  have u := K.out.now.2.1
  obtain ⟨u0, u1, u2, u3, u4⟩ := ed_cells u
  obtain ⟨v0, v1, v2, v3, v4⟩ := ed_frozen u
  have E := Lib.hid (blk_five u (.int .i64 a) (.int .i64 b) (.string ⟨pat.toArray⟩) (.string ⟨rep.toArray⟩) (.bool ev))
  clear u
  go_enter Tryd.func13, Tryd.ntmps13
  go_upto_region 1 with fail
  generalize (w.alloc (.cells #[.int .i64 a, .int .i64 b, .string ⟨pat.toArray⟩, .string ⟨rep.toArray⟩, .bool ev] 28)).alloc (.cells #[.int .i64 0, .int .i64 0, .string ⟨#[]⟩, .string ⟨#[]⟩, .bool false] 38) = wb at *
  go_wp2_with fail
  have hk : ∀ i, w.heap.size ≤ (⟨w.heap.size + 1, i, none⟩ : Addr).block := fun i => by show w.heap.size ≤ w.heap.size + 1; omega
  refine ret_jobR rfl _ _ (w.heap.size + 1) #[.int .i64 a, .int .i64 b, .string ⟨pat.toArray⟩, .string ⟨rep.toArray⟩, .bool ev] rfl rfl E.out rfl ?_
  exact ⟨rfl, (((((K.out.now.2.2).setCell (hk 0) _).setCell (hk 1) _).setCell (hk 2) _).setCell (hk 3) _).setCell (hk 4) _⟩
end Go.Proofs.YtgmeamefbfgbgaaDoor

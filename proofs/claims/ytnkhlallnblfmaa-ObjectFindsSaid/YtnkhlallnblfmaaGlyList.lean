/-
  Contracts of the document's own answers, layer 2: Signs.
-/
import Derived.Test.YtnkhlallnblfmaaGlySigns
namespace Go.Proofs.Ytnkhlallnblfmaa
open Go.RowKit

/-- signs with their places -/
def offs (a : Nat) : List (Nat × Nat) → List (Nat × (Nat × Nat))
  | [] => []
  | x :: l => (a, x) :: offs (a + x.2) l
def flat (L : List (Nat × (Nat × Nat))) : List Value := L.flatMap fun p => (signV p.1 p.2).toList
theorem offs_snoc (a : Nat) (l : List (Nat × Nat)) (x : Nat × Nat) : offs a (l ++ [x]) = offs a l ++ [(a + width l, x)] := by
  induction l generalizing a with
  | nil => simp [offs, width]
  | cons y l ih => simp only [List.cons_append, offs, ih, width, List.map_cons, List.sum_cons]; rw [Nat.add_assoc]
theorem offs_len (a : Nat) (l : List (Nat × Nat)) : (offs a l).length = l.length := by
  induction l generalizing a with
  | nil => rfl
  | cons x l ih => simp [offs, ih]
theorem offs_fst (a : Nat) (l : List (Nat × Nat)) : (offs a l).map (·.1) = startsAt a l := by
  induction l generalizing a with
  | nil => rfl
  | cons x l ih => simp [offs, startsAt, ih]
theorem offs_snd (a : Nat) (l : List (Nat × Nat)) : (offs a l).map (·.2) = l := by
  induction l generalizing a with
  | nil => rfl
  | cons x l ih => simp [offs, ih]
theorem flat_snoc (L : List (Nat × (Nat × Nat))) (p : Nat × (Nat × Nat)) : flat (L ++ [p]) = flat L ++ (signV p.1 p.2).toList := by simp [flat]
theorem flat_len (L : List (Nat × (Nat × Nat))) : (flat L).length = L.length * 4 := by
  induction L with
  | nil => rfl
  | cons p L ih => simp only [flat, List.flatMap_cons, List.length_append, List.length_cons] at *; rw [ih]; simp [signV]; omega
theorem flat_get (L : List (Nat × (Nat × Nat))) (k j : Nat) (hk : k < L.length) (hj : j < 4) : (flat L)[k * 4 + j]? = (signV L[k].1 L[k].2)[j]? := by
  induction L generalizing k with
  | nil => simp at hk
  | cons p L ih =>
    have hl : (signV p.1 p.2).toList.length = 4 := rfl
    cases k with
    | zero =>
      simp only [flat, List.flatMap_cons, Nat.zero_mul, Nat.zero_add]
      rw [List.getElem?_append_left (by omega)]
      simp
    | succ k =>
      simp only [flat, List.flatMap_cons]
      rw [List.getElem?_append_right (by omega), hl, show (k + 1) * 4 + j - 4 = k * 4 + j by omega]
      have := ih k (by simpa using hk)
      simpa [flat] using this

theorem elt_sign : Elt Try.prog 44 59 (.agg #[.int .i64 0, .int .i64 0, .int .i64 0, .bool false]) 4 32 := ⟨Try.underlying44, by kernel_rfl, rfl, by decide⟩

set_option maxHeartbeats 1000000 in
theorem refSigns_any (S : List UInt8) (hs : S.length ≤ 1000000) (w : World) :
    Calls Try.prog 24 #[.string ⟨S.toArray⟩] w fun e w' => ∃ A c, e = .returned (.slice A (chars S).length c) ∧
      w'.ownsRow w.heap.size 59 4 (.slice A (chars S).length c) (chars S).length (flat (offs 0 (chars S))) ∧ Below w.heap.size w w' := by
  go_enter Try.func24, Try.ntmps24
  go_wp2
  go_loopw [3, 4] (fun v i wr => ∃ (done : List (Nat × Nat)) (a : Nat), i = .int .i64 a ∧ a ≤ S.length ∧ done.length ≤ a ∧ Hid (Read S done a) ∧ wr.ownsRow w.heap.size 59 4 v done.length (flat (offs 0 done)) ∧ Below w.heap.size w wr) (fun _ i _ => S.length - (intOf i).toNat)
  case atStart => exact ⟨[], 0, rfl, Nat.zero_le _, Nat.zero_le _, Read.start S, World.ownsRow_nil _ _ _ _, Below.refl _ _⟩
  case round =>
    obtain ⟨done, a, rfl, hal, hdl, HR, hown, hb⟩ := hrel
    have z := hb.size
    by_cases hlt : a < S.length
    · have hst := HR.out.step hlt
      have hple := dec_pos (S.drop a)
      have hnle := dec_le (drop_ne hlt)
      rw [List.length_drop] at hnle
      have HO : Hid (offs 0 (done ++ [dec (S.drop a)]) = offs 0 done ++ [(a, dec (S.drop a))]) := by
        show offs 0 _ = _
        rw [offs_snoc, HR.out.wide, Nat.zero_add]
      have HST := Lib.hid hst
      clear hst
      obtain ⟨A, c, rfl⟩ := own_form hown
      generalize hd : dec (S.drop a) = x at *
      have HD := Lib.hid hd
      clear hd
      go_wp2_with fail
      refine (refOne_any S a hlt (by unfold maxLen; omega) _).mono ?_
      rintro e w1 ⟨rfl, hb1⟩
      have z1 := hb1.size
      rw [HD.out]
      unfold signV
      have hown1 := own_keep hown hb1 (by omega)
      have hlo := hown.lt
      have hown2 := hown1.alloc (.cells #[.int .i64 (a : Int), .int .i64 (x.2 : Int), .int .i64 (x.1 : Int), .bool (!broken x)] 59)
      have hbx := Blk.new w1 59 #[.int .i64 (a : Int), .int .i64 (x.2 : Int), .int .i64 (x.1 : Int), .bool (!broken x)]
      clear hown hown1
      go_wp2_with (at_builtin; refine wpList_pushN rfl (.tmp 13) (.tmp 15) _ rfl w.heap.size 59 _ 4 32 elt_sign 59 _ _ _ rfl hown2 [.int .i64 (a : Int), .int .i64 (x.2 : Int), .int .i64 (x.1 : Int), .bool (!broken x)] (w1.heap.size + 1) (by simp) rfl rfl (by simp [Value.oneCell']) (by unfold maxLen; omega) (by omega) (by simp; omega) ?_; intro v3 w3 hown3 hb3 hfar3; have hbx3 : Blk w3 w1.heap.size 59 #[.int .i64 (a : Int), .int .i64 (x.2 : Int), .int .i64 (x.1 : Int), .bool (!broken x)] := (hfar3 _ (by simp) (fun e => by have := hlo _ e; omega)).trans hbx; have c1 : w3.cell? ⟨w1.heap.size, 1, none⟩ = some (.int .i64 (x.2 : Int)) := by rw [hbx3.cell]; rfl)
      go_roundw
      case rel => exact ⟨done ++ [x], a + x.2, by go_num, by omega, by simp; omega, HST.out, by rw [HO.out, flat_snoc, List.length_append]; exact hown3, (hb.trans (hb1.mono z)).trans (((Below.refl _ _).alloc (by omega) _).trans hb3)⟩
      case measure => simp [intOf]; omega
    · have HE := Lib.hid (HR.out.end_ (by omega))
      obtain ⟨A, c, rfl⟩ := own_form hown
      go_wp2
      go_ret
      exact ⟨A, c, by rw [HE.out]; rfl, by rw [HE.out]; exact hown, hb⟩
end Go.Proofs.Ytnkhlallnblfmaa

/-
  The document's Parse: layer 10.
-/
import Derived.Test.YtfoncmgcdldkdaaDoorKeyOne
namespace Go.Proofs.YtfoncmgcdldkdaaDoor
open Go.RowKit

theorem text_back (s : List UInt8) (k : Nat) : ({ data := s.toArray } : ByteArray).extract k s.length = ⟨(s.drop k).toArray⟩ := by
  apply ByteArray.ext
  rw [ByteArray.data_extract]
  apply Array.ext'
  simp
  exact List.take_of_length_le (by rw [List.length_drop]; omega)
theorem elt_rune : Elt Tryd.prog 25 21 (.int .i32 0) 1 4 := ⟨Tryd.underlying25, by kernel_rfl, rfl, by decide⟩
/-- keys and a number -/
def GivesLN (w : World) (r : List Nat × Nat) (e : Ending) (w' : World) : Prop :=
  ∃ A c, e = .returned (.tuple #[.slice A r.1.length c, .int .i64 (r.2 : Nat)]) ∧ Row w' w'.heap.size A ((r.1.map fun x : Nat => (x : Int)).map runz) ∧ Below w.heap.size w w'
/-- keys were read so far -/
structure ReadK (S : List UInt8) (L : List Nat) (p : Nat) : Prop where
  hp : p = (wordsK L).length
  hS : S = wordsK L ++ S.drop p
  keys : ∀ r ∈ L, keyK (r : Nat)
  few : L.length ≤ p
  le : p ≤ S.length
theorem readK_start (S : List UInt8) : ReadK S [] 0 := ⟨rfl, rfl, fun r hr => by simp at hr, Nat.le_refl _, Nat.zero_le _⟩
theorem ReadK.step {S : List UInt8} {L : List Nat} {p r : Nat} (h : ReadK S L p) (ho : oneK (S.drop p) = some r) : ReadK S (L ++ [r]) (p + (writK r).length) := by
  obtain ⟨k1, k2⟩ := oneK_some ho
  have hw := writK_len r
  have e : S = wordsK (L ++ [r]) ++ S.drop (p + (writK r).length) := by
    have h1 := h.hS
    rw [k2, List.drop_drop] at h1
    rw [wordsK_snoc, List.append_assoc]
    exact h1
  refine ⟨by rw [wordsK_snoc, List.length_append, ← h.hp], e, fun x hx => ?_, by have := h.few; simp; omega, ?_⟩
  · rcases List.mem_append.1 hx with hx | hx
    · exact h.keys x hx
    · rw [List.mem_singleton.1 hx]; exact k1
  · have := congrArg List.length e
    rw [wordsK_snoc, List.length_append, List.length_append, ← h.hp] at this
    omega
theorem keysK_words_app {L : List Nat} (h : ∀ r ∈ L, keyK (r : Nat)) (T : List UInt8) : keysK (wordsK L ++ T) = (keysK T).map (L ++ ·) := by
  induction L with
  | nil => simp [wordsK]
  | cons r L ih =>
    have e : wordsK (r :: L) ++ T = writK r ++ (wordsK L ++ T) := by simp [wordsK]
    rw [e, keysK_step (oneK_writ (h r (List.mem_cons_self ..)) _), List.drop_left, ih (fun x hx => h x (List.mem_cons_of_mem _ hx))]
    rw [Option.map_map]
    rfl
theorem ReadK.done {S : List UInt8} {L : List Nat} (h : ReadK S L S.length) : parseA S = if L.length ≤ 256 then (L, 0) else ([], 3) := by
  have e : keysK S = some L := by
    have h1 := h.hS
    rw [List.drop_length, List.append_nil] at h1
    rw [h1]
    exact keysK_words h.keys
  unfold parseA
  rw [e]
theorem ReadK.bad {S : List UInt8} {L : List Nat} {p : Nat} (h : ReadK S L p) (hp : p < S.length) (ho : oneK (S.drop p) = none) : parseA S = ([], 5) := by
  have hne : S.drop p ≠ [] := by intro e; have := congrArg List.length e; simp at this; omega
  have e : keysK S = none := by
    rw [h.hS, keysK_words_app h.keys, keysK_none hne ho]
    rfl
  unfold parseA
  rw [e]
set_option maxHeartbeats 2000000 in
theorem refKParse_any (S : List UInt8) (hS : S.length ≤ 1000000) (w : World) : Calls Tryd.prog 14 #[.string ⟨S.toArray⟩] w (GivesLN w (parseA S)) := by
  go_enter Tryd.func14, Tryd.ntmps14
  go_wp2_with fail
  go_loopw [4, 5] (fun v i wr => ∃ p : Nat, i = .int .i64 p ∧ ∃ L A4 c4, v = .slice A4 L.length c4 ∧ wr.ownsRow w.heap.size 21 1 (.slice A4 L.length c4) L.length ((L.map fun x : Nat => (x : Int)).map runz) ∧ ReadK S L p ∧ Below w.heap.size w wr) (fun _ i _ => S.length - (intOf i).toNat)
  case atStart => exact ⟨0, rfl, [], none, 0, rfl, World.ownsRow_nil _ _ _ _, readK_start S, Below.refl _ _⟩
  case round =>
    obtain ⟨p, rfl, L, A4, c4, rfl, own, hr, hb⟩ := hrel
    have HR := Lib.hid hr
    have HO := Lib.hid own
    have hpl := hr.le
    have hfew := hr.few
    clear hr own
    have hz := hb.size
    by_cases hlt : p < S.length
    · have hlt' : (p : Int) < (S.length : Int) := by omega
      have hp0 : (0 : Int) ≤ (p : Int) := by omega
      have hp1 : (p : Int) ≤ (S.length : Int) := by omega
      have hdl : (S.drop p).length ≤ 1000000 := by rw [List.length_drop]; omega
      have hne : S.drop p ≠ [] := by intro e; have := congrArg List.length e; simp at this; omega
      rcases ho : oneK (S.drop p) with _ | r
      · have HP := Lib.hid (HR.out.bad hlt ho)
        have HC : Hid (∀ wz, Calls Tryd.prog 24 #[.string ⟨(S.drop p).toArray⟩] wz fun e w' => e = .returned (.tuple #[.int .i64 0, .string ⟨#[]⟩]) ∧ Below wz.heap.size wz w') := fun wz => by
          have := refKOne_any (S.drop p) hdl hne wz
          rwa [ho] at this
        clear ho
        go_wp2_with (go_at_call 24; rw [text_back]; refine (HC.out _).mono ?_; rintro e w1 ⟨rfl, b1⟩)
        go_ret2
        rw [HP.out]
        exact ⟨none, 0, rfl, .inl rfl, hb.trans (b1.mono hb.size)⟩
      · have HC : Hid (∀ wz, Calls Tryd.prog 24 #[.string ⟨(S.drop p).toArray⟩] wz fun e w' => e = .returned (.tuple #[.int .i64 (r : Nat), .string ⟨(writK r).toArray⟩]) ∧ Below wz.heap.size wz w') := fun wz => by
          have := refKOne_any (S.drop p) hdl hne wz
          rwa [ho] at this
        have HS := Lib.hid (HR.out.step ho)
        have hps := HS.out.le
        have hkr : 1 ≤ r ∧ r ≤ 1114111 := by
          have := (oneK_some ho).1
          unfold keyK at this
          omega
        have hr0 : ((r : Int) == 0) = false := by rw [beq_eq_false_iff_ne]; omega
        have hw32 : IntKind.i32.wrap (r : Int) = (r : Int) := IntWalk.i32_in _ (by omega)
        clear ho
        go_upto_region 7 with (go_at_call 24; rw [text_back]; refine (HC.out _).mono ?_; rintro e w1 ⟨rfl, b1⟩)
        have hz1 := b1.size
        have HO1 := Lib.hid (own_keep HO.out b1 (Nat.le_refl _))
        replace hb := hb.trans (b1.mono hz)
        clear b1 HC
        go_wp2_with (at_builtin; refine wpList_push rfl _ _ _ rfl w.heap.size 21 _ 4 elt_rune 21 (.slice A4 L.length c4) L.length _ rfl HO1.out (.int .i32 (r : Int)) rfl rfl (by unfold maxLen; omega) (by omega) (by omega) ?_; intro v2 w2 own2 b2; obtain ⟨A5, c5, rfl⟩ := own_form own2)
        go_roundw
        case rel => exact ⟨p + (writK r).length, by go_num, L ++ [r], A5, c5, by simp, by simpa [runz] using own2, HS.out, hb.trans b2⟩
        case measure => have := writK_len r; simp [intOf]; omega
    · obtain rfl : p = S.length := by omega
      have HP := Lib.hid HR.out.done
      by_cases hl : L.length ≤ 256
      · have hl' : ¬ (256 : Int) < (L.length : Int) := by omega
        have HQ : Hid (parseA S = (L, 0)) := by show _ = _; rw [HP.out, if_pos hl]
        go_wp2_with fail
        go_ret2
        rw [HQ.out]
        exact ⟨A4, c4, rfl, Row.of_own HO.out, hb⟩
      · have hl' : (256 : Int) < (L.length : Int) := by omega
        have HQ : Hid (parseA S = ([], 3)) := by show _ = _; rw [HP.out, if_neg hl]
        go_wp2_with fail
        go_ret2
        rw [HQ.out]
        exact ⟨none, 0, rfl, .inl rfl, hb⟩
end Go.Proofs.YtfoncmgcdldkdaaDoor

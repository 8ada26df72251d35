/-
  slices.Replace at pieces: all ways: layer 5.
-/
import Derived.Test.YtacpfkkbjibmgaaPieRep3
namespace Go.Proofs.Ytacpfkkbjibmgaa
open Go.RowKit

/-- slices.Replace: whatever comes in place of whatever -/
theorem pieReplace_any (b1 b2 n m i j : Nat) (v x : Value) (cs ds : List Value) (w : World) (hs : w.ownsRow b1 73 3 v n cs) (hx : w.ownsRow b2 73 3 x m ds) (hne : ∀ g, v.ownBlock = some g → x.ownBlock ≠ some g) (hb1 : b1 ≤ w.heap.size) (hij : i ≤ j) (hj : j ≤ n) (hn : n ≤ 100000) (hm2 : m ≤ 100000)
    (h1c : ∀ u ∈ cs, u.oneCell' = true) (h1d : ∀ u ∈ ds, u.oneCell' = true) :
    Calls Try.prog 33 #[v, .int .i64 (i : Nat), .int .i64 (j : Nat), x] w fun e w' =>
      ∃ v', e = .returned v' ∧ w'.ownsRow b1 73 3 v' (i + m + (n - j)) (cs.take (i * 3) ++ ds ++ cs.drop (j * 3)) ∧ w.grownBy w' v.ownBlock ∧ NewOr w v v' := by
  have hcl := hs.1
  have hdl := hx.1
  by_cases hi : i = j
  · subst hi
    refine (pieReplace_same b1 b2 n m i v x cs ds w hs hx hne hb1 hj hn hm2 h1c h1d).mono ?_
    rintro e w' ⟨v', rfl, h1, h2, h3⟩
    rw [show n + m = i + m + (n - i) by omega] at h1
    exact ⟨v', rfl, h1, h2, h3⟩
  · have hv : v ≠ .slice none 0 0 := fun e => by
      subst e
      rcases hs.2 with ⟨_, h⟩ | ⟨g, cap, cur, h, _⟩
      · omega
      · simp at h
    obtain ⟨g, c, L, rfl, hbg, hS⟩ := held_of hs hv
    have hxg : x.ownBlock ≠ some g := hne g rfl
    by_cases hjn : j = n
    · subst hjn
      rw [List.drop_of_length_le (by omega), List.append_nil, Nat.sub_self, Nat.add_zero]
      by_cases hmore : j ≤ i + m
      · exact pieReplace_endMore b1 b2 j m i c g x cs ds w hs hx hb1 (by omega) hmore hn hm2 h1d
      · refine (pieReplace_endLess b2 j m i c g x cs ds L w hS hx (by omega) h1d).mono ?_
        rintro e w' ⟨rfl, ⟨L', hL⟩, hg⟩
        exact ⟨_, rfl, hL.own hbg (by rw [List.length_append, List.length_take, hcl, hdl]; omega), hg, fun k hk => .inl hk⟩
    · have hl : (cs.take (i * 3) ++ ds ++ cs.drop (j * 3)).length = (i + m + (n - j)) * 3 := by
        rw [List.length_append, List.length_append, List.length_take, List.length_drop, hcl, hdl]; omega
      by_cases hroom : i + m + (n - j) ≤ c
      · by_cases hless : i + m ≤ j
        · refine (pieReplace_less b2 n c m i j (n - j) g x cs L ds w hS hx (by omega) (by omega) rfl hless hcl h1c h1d).mono ?_
          rintro e w' ⟨rfl, ⟨L', hL⟩, hg⟩
          exact ⟨_, rfl, hL.own hbg hl, hg, fun k hk => .inl hk⟩
        · refine (pieReplace_more b2 n c m i j (n - j) g x cs L ds w hS hx hxg (by omega) (by omega) rfl (by omega) hroom hn hm2 hcl h1c h1d).mono ?_
          rintro e w' ⟨rfl, ⟨L', hL⟩, hg⟩
          exact ⟨_, rfl, hL.own hbg hl, hg, fun k hk => .inl hk⟩
      · refine (pieReplace_grow b2 n c m i j (n - j) g x cs L ds w hS hx (by omega) (by omega) rfl (by omega) hn hm2 hcl h1c h1d).mono ?_
        rintro e w' ⟨gn, G, hgn, rfl, ⟨L', hL⟩, hg⟩
        exact ⟨_, rfl, hL.own (by omega) hl, grown_none hg _, fun k hk => .inr (by simp [Value.ownBlock] at hk; omega)⟩

/-- .. on pieces -/
theorem pieReplace_pies (b1 b2 i j : Nat) (v x : Value) (ps qs : List PieP) (w : World) (hs : w.ownsRow b1 73 3 v ps.length (flatP ps)) (hx : w.ownsRow b2 73 3 x qs.length (flatP qs)) (hne : ∀ g, v.ownBlock = some g → x.ownBlock ≠ some g) (hb1 : b1 ≤ w.heap.size) (hij : i ≤ j) (hj : j ≤ ps.length) (hn : ps.length ≤ 100000) (hm2 : qs.length ≤ 100000) :
    Calls Try.prog 33 #[v, .int .i64 (i : Nat), .int .i64 (j : Nat), x] w fun e w' =>
      ∃ v', e = .returned v' ∧ w'.ownsRow b1 73 3 v' (ps.take i ++ qs ++ ps.drop j).length (flatP (ps.take i ++ qs ++ ps.drop j)) ∧ w.grownBy w' v.ownBlock ∧ NewOr w v v' := by
  refine (pieReplace_any b1 b2 ps.length qs.length i j v x _ _ w hs hx hne hb1 hij hj hn hm2 (flatP_cell ps) (flatP_cell qs)).mono ?_
  rintro e w' ⟨v', rfl, h1, h2, h3⟩
  refine ⟨v', rfl, ?_, h2, h3⟩
  rw [flatP_append, flatP_append, ← flatP_take, ← flatP_drop, List.length_append, List.length_append, List.length_take, List.length_drop, Nat.min_eq_left (by omega)]
  exact h1
theorem pieInsert_pies (b1 b2 i : Nat) (v x : Value) (ps qs : List PieP) (w : World) (hs : w.ownsRow b1 73 3 v ps.length (flatP ps)) (hx : w.ownsRow b2 73 3 x qs.length (flatP qs)) (hne : ∀ g, v.ownBlock = some g → x.ownBlock ≠ some g) (hb1 : b1 ≤ w.heap.size) (hi : i ≤ ps.length) (hn : ps.length ≤ 100000) (hm2 : qs.length ≤ 100000) :
    Calls Try.prog 40 #[v, .int .i64 (i : Nat), x] w fun e w' =>
      ∃ v', e = .returned v' ∧ w'.ownsRow b1 73 3 v' (ps.take i ++ qs ++ ps.drop i).length (flatP (ps.take i ++ qs ++ ps.drop i)) ∧ w.grownBy w' v.ownBlock ∧ NewOr w v v' := by
  refine (pieInsert_any b1 b2 ps.length qs.length i v x _ _ w hs hx hne hb1 hi hn hm2 (flatP_cell ps) (flatP_cell qs)).mono ?_
  rintro e w' ⟨v', rfl, h1, h2, h3⟩
  refine ⟨v', rfl, ?_, h2, h3⟩
  rw [flatP_append, flatP_append, ← flatP_take, ← flatP_drop, List.length_append, List.length_append, List.length_take, List.length_drop, Nat.min_eq_left (by omega), show i + qs.length + (ps.length - i) = ps.length + qs.length by omega]
  exact h1
end Go.Proofs.Ytacpfkkbjibmgaa

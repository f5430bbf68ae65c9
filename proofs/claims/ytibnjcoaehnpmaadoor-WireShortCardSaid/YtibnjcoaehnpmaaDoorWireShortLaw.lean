/- The walk of WireShort, and what its numbers' lengths are. -/
import Derived.Test.YtibnjcoaehnpmaaDoorWireShown
namespace Wire
theorem restGroups_mono : ∀ (n r r' : Nat), r' ≤ n → r ≤ r' → (restGroups r).length ≤ (restGroups r').length := by
  intro n
  induction n with
  | zero =>
    intro r r' h h'
    obtain rfl : r = 0 := by omega
    obtain rfl : r' = 0 := by omega
    exact Nat.le_refl _
  | succ n ih =>
    intro r r' h h'
    rcases Nat.eq_zero_or_pos r with rfl | h0
    · rw [restGroups_zero]; exact Nat.zero_le _
    · rw [restGroups_pos h0, restGroups_pos (by omega : 0 < r')]
      simp only [List.length_cons]
      have := ih (r / 128) (r' / 128) (by omega) (Nat.div_le_div_right h')
      omega
theorem num_length_m (n : Int) : (num n).length = 1 + (restGroups (mOf n / 64)).length := by
  rw [num_length, groups_split]; simp; omega
theorem num_length_pos (n : Int) : 1 ≤ (num n).length := by rw [num_length_m]; omega
theorem mOf_neg (n : Int) : mOf (-1 - n) = mOf n := by
  unfold mOf; split <;> split <;> omega
theorem num_length_neg (n : Int) : (num (-1 - n)).length = (num n).length := by
  rw [num_length_m, num_length_m, mOf_neg]
theorem num_length_mono {a b : Int} (h0 : 0 ≤ a) (h : a ≤ b) : (num a).length ≤ (num b).length := by
  rw [num_length_m, num_length_m]
  have : mOf a ≤ mOf b := by unfold mOf; rw [if_neg (by omega), if_neg (by omega)]; omega
  have := restGroups_mono _ (mOf a / 64) (mOf b / 64) (Nat.le_refl _) (Nat.div_le_div_right this)
  omega
/-- the number, or -1 less it -/
def flat (a : Int) : Int := if a < 0 then -1 - a else a
theorem flat_neg {a : Int} (h : a < 0) : flat a = -1 - a := by unfold flat; rw [if_pos h]
theorem flat_pos {a : Int} (h : ¬ a < 0) : flat a = a := by unfold flat; rw [if_neg h]
end Wire
namespace Go.Proofs.YtibnjcoaehnpmaaDoor
open Go Go.RowKit Go.Shelf Go.Sort

set_option maxRecDepth 100000 in
set_option maxHeartbeats 2000000 in
theorem wireShort_walk (a b : Int) (ha : -9223372036854775808 ≤ a ∧ a ≤ 9223372036854775807) (hb : -9223372036854775808 ≤ b ∧ b ≤ 9223372036854775807) (ea : Addr) (w : World) (hE : errLies ea w) :
    Calls Tryd.prog 6 #[.int .i64 a, .int .i64 b] w fun e w' => e = .returned (.bool true) ∧ Below w.heap.size w w' := by
  have hwa : IntKind.i64.wrap (-1 - a) = -1 - a := IntWalk.i64_in _ (by omega)
  have hwb : IntKind.i64.wrap (-1 - b) = -1 - b := IntWalk.i64_in _ (by omega)
  have hwa' : IntKind.i64.wrap (-1 - (-1 - a)) = -1 - (-1 - a) := IntWalk.i64_in _ (by omega)
  have hwb' : IntKind.i64.wrap (-1 - (-1 - b)) = -1 - (-1 - b) := IntWalk.i64_in _ (by omega)
  obtain ⟨la, ha1⟩ : ∃ n, n = (Wire.num a).length := ⟨_, rfl⟩
  obtain ⟨lb, hb1⟩ : ∃ n, n = (Wire.num b).length := ⟨_, rfl⟩
  have h4 : decide ((la : Int) ≤ 10) = true := by have := Wire.num_len a ha; rw [decide_eq_true_eq]; omega
  have h5 : decide ((1 : Int) ≤ la) = true := by have := Wire.num_length_pos a; rw [decide_eq_true_eq]; omega
  have h6 : ¬ Wire.flat b < Wire.flat a → decide (la ≤ lb) = true := fun h => by
    have := @Wire.num_length_mono (Wire.flat a) (Wire.flat b) (by unfold Wire.flat; split <;> omega) (by omega)
    have e : ∀ x, (Wire.num (Wire.flat x)).length = (Wire.num x).length := fun x => by unfold Wire.flat; split; exact Wire.num_length_neg x; rfl
    rw [e, e, ← ha1, ← hb1] at this
    rw [decide_eq_true_eq]; omega
  have ha2 : (Wire.num (-1 - a)).length = la := by rw [Wire.num_length_neg, ha1]
  have hb2 : (Wire.num (-1 - b)).length = lb := by rw [Wire.num_length_neg, hb1]
  have ha3 : (Wire.num (-1 - (-1 - a))).length = la := by rw [Wire.num_length_neg, ha2]
  have hb3 : (Wire.num (-1 - (-1 - b))).length = lb := by rw [Wire.num_length_neg, hb2]
  replace ha1 := ha1.symm
  replace hb1 := hb1.symm
  by_cases h1 : a < 0 <;> by_cases h2 : b < 0 <;> by_cases h3 : Wire.flat b < Wire.flat a
  all_goals (first | (have h7 := h6 h3; clear h6) | clear h6)
  all_goals simp only [Wire.flat_neg, Wire.flat_pos, h1, h2, not_false_eq_true] at h3
  all_goals try (have d1 : decide (a < b) = true := decide_eq_true (by omega))
  all_goals try (have d1 : decide (a < b) = false := decide_eq_false (by omega))
  all_goals try (have d2 : decide (b < -1 - a) = true := decide_eq_true (by omega))
  all_goals try (have d2 : decide (b < -1 - a) = false := decide_eq_false (by omega))
  all_goals try (have d3 : decide (-1 - b < a) = true := decide_eq_true (by omega))
  all_goals try (have d3 : decide (-1 - b < a) = false := decide_eq_false (by omega))
  all_goals try (have d4 : decide (b < a) = true := decide_eq_true (by omega))
  all_goals try (have d4 : decide (b < a) = false := decide_eq_false (by omega))
  all_goals go_enter Tryd.func6, Tryd.ntmps6
  all_goals go_wp2_with fail
  all_goals (refine (shown_any ea w hE).mono ?_; rintro e w1 ⟨rfl, hB⟩)
  all_goals go_wp2_with fail
  all_goals (refine (num_any _ (by omega) (by omega) _).mono ?_; rintro e w2 ⟨rfl, hB'⟩; replace hB := hB.trans (hB'.mono hB.size); clear hB')
  all_goals go_wp2_with fail
  all_goals (refine (num_any _ (by omega) (by omega) _).mono ?_; rintro e w3 ⟨rfl, hB'⟩; replace hB := hB.trans (hB'.mono hB.size); clear hB')
  all_goals go_wp2_with fail
  all_goals (refine (num_any _ (by omega) (by omega) _).mono ?_; rintro e w4 ⟨rfl, hB'⟩; replace hB := hB.trans (hB'.mono hB.size); clear hB')
  all_goals go_wp2_with fail
  all_goals (refine (num_any _ (by omega) (by omega) _).mono ?_; rintro e w5 ⟨rfl, hB'⟩; replace hB := hB.trans (hB'.mono hB.size); clear hB')
  all_goals go_wp2_with fail
  all_goals try (refine (num_any _ (by omega) (by omega) _).mono ?_; rintro e w6 ⟨rfl, hB'⟩; replace hB := hB.trans (hB'.mono hB.size); clear hB'; go_wp2_with fail)
  all_goals try (refine (num_any _ (by omega) (by omega) _).mono ?_; rintro e w7 ⟨rfl, hB'⟩; replace hB := hB.trans (hB'.mono hB.size); clear hB'; go_wp2_with fail)
  all_goals go_ret
  all_goals exact ⟨rfl, hB⟩
end Go.Proofs.YtibnjcoaehnpmaaDoor

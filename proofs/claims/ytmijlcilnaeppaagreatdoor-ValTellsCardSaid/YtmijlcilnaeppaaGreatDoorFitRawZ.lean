/- morainelaw03.ValType, fit. -/
import Derived.Test.YtmijlcilnaeppaaGreatDoorBun14
set_option linter.unusedSimpArgs false
set_option linter.unusedVariables false
namespace Go.Proofs.YtmijlcilnaeppaaGreatDoor
open Go Go.RowKit Go.Shelf

def typeK (a : Int) : Int := 1 + pickI a 6
def typeO (a b : Int) : Int := if typeK a < 5 then 0 else 1 + pickI b 4
theorem typeK_bd (a : Int) : 1 ≤ typeK a ∧ typeK a ≤ 6 := by have := pickI_bd a 6 (by decide); unfold typeK; omega
def tyK (a : Int) : Int := if typeK a < 5 then typeK a else 5
theorem ty_right (a b : Int) : rtB (tyK a) (typeO a b) = true := by
  have h := typeK_bd a
  have hb := pickI_bd b 4 (by decide)
  unfold rtB tyK typeO
  by_cases h5 : typeK a < 5
  · rw [if_pos h5, if_pos h5, if_neg (by omega)]
    exact decide_eq_true ⟨⟨h.1, by omega⟩, rfl⟩
  · rw [if_neg h5, if_neg h5, if_pos rfl]
    exact decide_eq_true ⟨by omega, by omega⟩

set_option maxHeartbeats 2000000 in
set_option maxRecDepth 100000 in
theorem valType_any (a b : Int) (ha1 : -9223372036854775808 ≤ a) (ha2 : a ≤ 9223372036854775807) (hb1 : -9223372036854775808 ≤ b) (hb2 : b ≤ 9223372036854775807) (w : World) :
    Calls Tryz.prog 22 #[.int .i64 a, .int .i64 b] w fun e w' => e = .returned (.agg #[.int .i64 (tyK a), .int .i64 (typeO a b)]) ∧ Below w.heap.size w w' := by
  have hp := fun w => pick_any a 6 ha1 ha2 (by decide) (by decide) w
  have hp4 := fun w => pick_any b 4 hb1 hb2 (by decide) (by decide) w
  have hb6 := pickI_bd a 6 (by decide)
  have hb4 := pickI_bd b 4 (by decide)
  have hfin : ∀ k o, k = tyK a → o = typeO a b → ∀ (e : Ending) (w' : World), (e = .returned (.agg #[.int .i64 k, .int .i64 o]) ∧ Below w.heap.size w w') → (e = .returned (.agg #[.int .i64 (tyK a), .int .i64 (typeO a b)]) ∧ Below w.heap.size w w') := fun k o hk ho e w' h => by rw [← hk, ← ho]; exact h
  by_cases h5 : typeK a < 5
  · refine Calls.mono ?_ (hfin (1 + pickI a 6) 0 (by unfold tyK; rw [if_pos h5]; rfl) (by unfold typeO; rw [if_pos h5]))
    unfold typeK at h5
    clear hfin hp4 hb4
    generalize pickI a 6 = q at hp hb6 h5 ⊢
    obtain ⟨hq1, hq2⟩ := hb6
    have HP := Lib.hid hp
    clear hp
    go_enter Tryz.func22, Tryz.ntmps22
    go_wp2_with fail
    refine (HP.out _).mono ?_
    rintro e W1 ⟨rfl, rfl⟩
    go_wp2_with fail
    exact bodyPost_ret (v := .agg #[.int .i64 (1 + q), .int .i64 0]) (by simp [results, Tryz.results22, go_sem]) rfl ⟨rfl, (Below.refl _ _).alloc (Nat.le_refl _) _⟩
  · refine Calls.mono ?_ (hfin 5 (1 + pickI b 4) (by unfold tyK; rw [if_neg h5]) (by unfold typeO; rw [if_neg h5]))
    unfold typeK at h5
    clear hfin
    generalize pickI a 6 = q at hp hb6 h5 ⊢
    generalize pickI b 4 = q4 at hp4 hb4 ⊢
    obtain ⟨hq1, hq2⟩ := hb6
    obtain ⟨hq3, hq4⟩ := hb4
    have h5' : 5 ≤ 1 + q := by omega
    have HP := Lib.hid hp
    have HP4 := Lib.hid hp4
    clear hp hp4 h5
    go_enter Tryz.func22, Tryz.ntmps22
    go_wp2_with fail
    refine (HP.out _).mono ?_
    rintro e W1 ⟨rfl, rfl⟩
    go_wp2_with fail
    refine (HP4.out _).mono ?_
    rintro e W1 ⟨rfl, rfl⟩
    go_wp2_with fail
    exact bodyPost_ret (v := .agg #[.int .i64 5, .int .i64 (1 + q4)]) (by simp [results, Tryz.results22, go_sem]) rfl ⟨rfl, (Below.refl _ _).alloc (Nat.le_refl _) _⟩

def fitV (k : Int) (x : RawOne) : V := if k = 5 then .mk 5 0 ⟨#[]⟩ [] else if k = 3 ∨ k = 4 then (if pickI x.k 4 = 0 then .mk 0 0 ⟨#[]⟩ [] else .mk k (1 + pickI x.n 500) ⟨#[]⟩ []) else valOne k x
theorem fitV_l (k : Int) (x : RawOne) : (fitV k x).l = [] := by
  unfold fitV
  repeat' split
  all_goals first | rfl | exact valOne_l _ _

end Go.Proofs.YtmijlcilnaeppaaGreatDoor

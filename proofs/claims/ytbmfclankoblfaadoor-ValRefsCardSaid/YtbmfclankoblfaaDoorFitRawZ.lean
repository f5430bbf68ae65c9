/- morainelaw03.ValType, fit. -/
import Derived.Test.YtbmfclankoblfaaDoorBun14
set_option linter.unusedSimpArgs false
set_option linter.unusedVariables false
namespace Go.Proofs.YtbmfclankoblfaaDoor
open Go Go.RowKit Go.Shelf

def typeK (a : Int) : Int := 1 + pickI a 6
def typeO (a b : Int) : Int := if typeK a < 5 then 0 else 1 + pickI b 4
theorem typeK_bd (a : Int) : 1 ≤ typeK a ∧ typeK a ≤ 6 := by have := pickI_bd a 6 (by decide); unfold typeK; omega
def tyK (a : Int) : Int := if typeK a < 5 then typeK a else 5
theorem ty_right (a b : Int) : rtB (tyK a) (typeO a b) = true := by
  have h := typeK_bd a
  have hb := pickI_bd b 4 (by decide)
  unfold rtB tyK typeO
  by_cases h5 : typeK a < 5
  · rw [if_pos h5, if_pos h5, if_neg (by omega)]
    exact decide_eq_true ⟨⟨h.1, by omega⟩, rfl⟩
  · rw [if_neg h5, if_neg h5, if_pos rfl]
    exact decide_eq_true ⟨by omega, by omega⟩

set_option maxHeartbeats 2000000 in
set_option maxRecDepth 100000 in
theorem valType_any (a b : Int) (ha1 : -9223372036854775808 ≤ a) (ha2 : a ≤ 9223372036854775807) (hb1 : -9223372036854775808 ≤ b) (hb2 : b ≤ 9223372036854775807) (w : World) :
    Calls Tryd.prog 20 #[.int .i64 a, .int .i64 b] w fun e w' => e = .returned (.agg #[.int .i64 (tyK a), .int .i64 (typeO a b)]) ∧ Below w.heap.size w w' := by
  have hp := fun w => pick_any a 6 ha1 ha2 (by decide) (by decide) w
  have hp4 := fun w => pick_any b 4 hb1 hb2 (by decide) (by decide) w
  have hb6 := pickI_bd a 6 (by decide)
  have hb4 := pickI_bd b 4 (by decide)
  have hfin : ∀ k o, k = tyK a → o = typeO a b → ∀ (e : Ending) (w' : World), (e = .returned (.agg #[.int .i64 k, .int .i64 o]) ∧ Below w.heap.size w w') → (e = .returned (.agg #[.int .i64 (tyK a), .int .i64 (typeO a b)]) ∧ Below w.heap.size w w') := fun k o hk ho e w' h => by rw [← hk, ← ho]; exact h
  by_cases h5 : typeK a < 5
  · refine Calls.mono ?_ (hfin (1 + pickI a 6) 0 (by unfold tyK; rw [if_pos h5]; rfl) (by unfold typeO; rw [if_pos h5]))
    unfold typeK at h5
    clear hfin hp4 hb4
    generalize pickI a 6 = q at hp hb6 h5 ⊢
    obtain ⟨hq1, hq2⟩ := hb6
    have HP := Lib.hid hp
    clear hp
    go_enter Tryd.func20, Tryd.ntmps20
    go_wp2_with fail
    refine (HP.out _).mono ?_
    rintro e W1 ⟨rfl, rfl⟩
    go_wp2_with fail
    exact bodyPost_ret (v := .agg #[.int .i64 (1 + q), .int .i64 0]) (by simp [results, Tryd.results20, go_sem]) rfl ⟨rfl, (Below.refl _ _).alloc (Nat.le_refl _) _⟩
  · refine Calls.mono ?_ (hfin 5 (1 + pickI b 4) (by unfold tyK; rw [if_neg h5]) (by unfold typeO; rw [if_neg h5]))
    unfold typeK at h5
    clear hfin
    generalize pickI a 6 = q at hp hb6 h5 ⊢
    generalize pickI b 4 = q4 at hp4 hb4 ⊢
    obtain ⟨hq1, hq2⟩ := hb6
    obtain ⟨hq3, hq4⟩ := hb4
    have h5' : 5 ≤ 1 + q := by omega
    have HP := Lib.hid hp
    have HP4 := Lib.hid hp4
    clear hp hp4 h5
    go_enter Tryd.func20, Tryd.ntmps20
    go_wp2_with fail
    refine (HP.out _).mono ?_
    rintro e W1 ⟨rfl, rfl⟩
    go_wp2_with fail
    refine (HP4.out _).mono ?_
    rintro e W1 ⟨rfl, rfl⟩
    go_wp2_with fail
    exact bodyPost_ret (v := .agg #[.int .i64 5, .int .i64 (1 + q4)]) (by simp [results, Tryd.results20, go_sem]) rfl ⟨rfl, (Below.refl _ _).alloc (Nat.le_refl _) _⟩

def fitV (k : Int) (x : RawOne) : V := if k = 5 then .mk 5 0 ⟨#[]⟩ [] else if k = 3 ∨ k = 4 then (if pickI x.k 4 = 0 then .mk 0 0 ⟨#[]⟩ [] else .mk k (1 + pickI x.n 500) ⟨#[]⟩ []) else valOne k x
theorem fitV_l (k : Int) (x : RawOne) : (fitV k x).l = [] := by
  unfold fitV
  repeat' split
  all_goals first | rfl | exact valOne_l _ _

set_option maxHeartbeats 2000000 in
set_option maxRecDepth 100000 in
theorem fit_any (k : Int) (x : RawOne) (hx : x.fine) (w : World) :
    Calls Tryd.prog 45 #[.int .i64 k, .agg #[.int .i64 x.k, .int .i64 x.n, .string x.s], .int .i64 500] w fun e w' => e = .returned (itOf (fitV k x)).v ∧ Below w.heap.size w w' := by
  have hp4 := fun w => pick_any x.k 4 hx.k.1 hx.k.2 (by decide) (by decide) w
  have hp5 := fun w => pick_any x.n 500 hx.n.1 hx.n.2 (by decide) (by decide) w
  have hb5 := pickI_bd x.n 500 (by decide)
  have hone := fun w => valOne_any k x hx.n.1 hx.n.2 hx.s w
  have hB0 : Below w.heap.size w ((w.alloc (.cells #[.int .i64 x.k, .int .i64 x.n, .string x.s] 58)).alloc (.cells #[.int .i64 0, .int .i64 0, .string ⟨#[]⟩, .slice none 0 0] 28)) := below_two _ _
  have hV0 := VBox.new (w.alloc (.cells #[.int .i64 x.k, .int .i64 x.n, .string x.s] 58)) 0 0 ⟨#[]⟩ (.slice none 0 0)
  rw [World.size_alloc] at hV0
  have h01 : w.heap.size ≠ w.heap.size + 1 := by omega
  have hfin : ∀ u, u = fitV k x → ∀ (e : Ending) (w' : World), (e = .returned (itOf u).v ∧ Below w.heap.size w w') → (e = .returned (itOf (fitV k x)).v ∧ Below w.heap.size w w') := fun u hu e w' h => by rw [← hu]; exact h
  by_cases h5 : k = 5
  · refine Calls.mono ?_ (hfin (.mk 5 0 ⟨#[]⟩ []) (by unfold fitV; rw [if_pos h5]))
    subst h5
    clear hfin hp4 hp5 hb5 hone hV0 hB0
    go_enter Tryd.func45, Tryd.ntmps45
    go_wp2_with fail
    exact bodyPost_ret (v := valV 5 0 ⟨#[]⟩ (.slice none 0 0)) (by simp [results, Tryd.results45, go_sem]) rfl ⟨rfl, below_two _ _⟩
  · have d5 : (k == 5) = false := beq_eq_false_iff_ne.2 h5
    by_cases h34 : k = 3 ∨ k = 4
    · by_cases hq : pickI x.k 4 = 0
      · refine Calls.mono ?_ (hfin (.mk 0 0 ⟨#[]⟩ []) (by unfold fitV; rw [if_neg h5, if_pos h34, if_pos hq]))
        rw [hq] at hp4
        have HP := Lib.hid hp4
        clear hfin hp4 hp5 hb5 hone hq hV0 hB0 h5
        rcases h34 with rfl | rfl
        all_goals
          go_enter Tryd.func45, Tryd.ntmps45
          go_wp2_with fail
          refine (HP.out _).mono ?_
          rintro e W1 ⟨rfl, rfl⟩
          go_wp2_with fail
          exact bodyPost_ret (v := valV 0 0 ⟨#[]⟩ (.slice none 0 0)) (by simp [results, Tryd.results45, go_sem]) rfl ⟨rfl, below_two _ _⟩
      · refine Calls.mono ?_ (hfin (.mk k (1 + pickI x.n 500) ⟨#[]⟩ []) (by unfold fitV; rw [if_neg h5, if_pos h34, if_neg hq]))
        generalize pickI x.k 4 = q4 at hp4 hq
        generalize pickI x.n 500 = q5 at hp5 hb5 ⊢
        have dq : (q4 == 0) = false := beq_eq_false_iff_ne.2 hq
        obtain ⟨hq1, hq2⟩ := hb5
        have HP := Lib.hid hp4
        have HP5 := Lib.hid hp5
        have hmn : min (500 : Int) 100000 = 500 := by decide
        clear hfin hp4 hp5 hone hq hV0 hB0 h5
        rcases h34 with rfl | rfl
        all_goals
          go_enter Tryd.func45, Tryd.ntmps45
          go_wp2_with fail
          refine (HP.out _).mono ?_
          rintro e W1 ⟨rfl, rfl⟩
          go_wp2_with fail
          refine (HP5.out _).mono ?_
          rintro e W1 ⟨rfl, rfl⟩
          go_wp2_with fail
          exact bodyPost_ret (by simp [results, Tryd.results45, go_sem]; exact ⟨rfl, rfl, rfl, rfl, rfl, rfl⟩) rfl ⟨rfl, below_two _ _⟩
    · refine Calls.mono ?_ (hfin (valOne k x) (by unfold fitV; rw [if_neg h5, if_neg h34]))
      have d3 : (k == 3) = false := beq_eq_false_iff_ne.2 (fun h => h34 (.inl h))
      have d4 : (k == 4) = false := beq_eq_false_iff_ne.2 (fun h => h34 (.inr h))
      generalize valOne k x = u at hone ⊢
      obtain ⟨uk, un, us, ul⟩ := u
      simp only [itOf, V.k, V.n, V.s] at hone ⊢
      have HONE := Lib.hid hone
      have HV0 := Lib.hid hV0
      have HB0 := Lib.hid hB0
      clear hfin hp4 hp5 hb5 hone hV0 hB0 h5 h34
      go_enter Tryd.func45, Tryd.ntmps45
      go_wp2_with fail
      refine (HONE.out _).mono ?_
      rintro e W1 ⟨rfl, hB1⟩
      have hV1 := HV0.out.below hB1
      have hBW := HB0.out.trans (hB1.mono (by simp; omega))
      obtain ⟨⟨c0, c1, c2, c3⟩, f0, f1, f2, f3⟩ := hV1.facts
      have HV1 := Lib.hid hV1
      have HBW := Lib.hid hBW
      clear hV1 hBW hB1
      go_wp2_with fail
      obtain ⟨hV, hB⟩ := out_box HV1.out HBW.out (by omega) uk un us (.slice none 0 0)
      unfold putBox at hV hB
      generalize ((((W1.setCell ⟨w.heap.size + 1, 0, none⟩ (.int .i64 uk)).setCell ⟨w.heap.size + 1, 1, none⟩ (.int .i64 un)).setCell ⟨w.heap.size + 1, 2, none⟩ (.string us)).setCell ⟨w.heap.size + 1, 3, none⟩ (.slice none 0 0)) = W9 at hV hB ⊢
      obtain ⟨⟨x0, x1, x2, x3⟩, _⟩ := hV.facts
      exact bodyPost_ret (v := valV uk un us (.slice none 0 0)) (by simp [results, Tryd.results45, go_sem, x0, x1, x2, x3]) rfl ⟨rfl, hB⟩
end Go.Proofs.YtbmfclankoblfaaDoor

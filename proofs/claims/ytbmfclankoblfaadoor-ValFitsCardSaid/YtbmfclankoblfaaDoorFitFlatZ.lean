/- morainelaw03.ValFit: whatever the type is. -/
import Derived.Test.YtbmfclankoblfaaDoorFitValZ
set_option linter.unusedSimpArgs false
set_option linter.unusedVariables false
namespace Go.Proofs.YtbmfclankoblfaaDoor
open Go Go.RowKit Go.Shelf

theorem flat_okV {u : V} (h : u.flatOk = true) : u.ok = true := by
  have hk : u.k ≠ 5 := by have := (flatOk_parts h).1; omega
  unfold V.ok
  rw [if_neg hk]
  exact h
set_option maxHeartbeats 2000000 in
set_option maxRecDepth 100000 in
theorem valFit_flat (tk tO : Int) (h5 : tk ≠ 5) (x : Raw) (hx : x.fine) (p : Option Addr) (c : Nat) (w : World) :
    Calls Tryd.prog 21 #[.agg #[.int .i64 tk, .int .i64 tO], .agg #[.int .i64 x.k, .int .i64 x.n, .string x.s, .slice p x.l.length c], .int .i64 500] w (fitPost tk tO x w) := by
  have hfirst := fun w => fit_any tk ⟨x.k, x.n, x.s⟩ ⟨hx.k, hx.n, hx.s⟩ w
  have hv : fitVal tk tO x = fitV tk ⟨x.k, x.n, x.s⟩ := by unfold fitVal; rw [if_neg h5]
  have hok := fitV_flat tk ⟨x.k, x.n, x.s⟩ h5
  have hlen := hx.l
  generalize fitV tk ⟨x.k, x.n, x.s⟩ = u at hfirst hv hok
  have hul : u.l = [] := List.length_eq_zero_iff.1 (flatOk_parts hok).2.2.1
  obtain ⟨uk, un, us, ul⟩ := u
  have hul' : ul = [] := hul
  subst hul'
  have hfin : ∀ w', Below w.heap.size w w' → fitPost tk tO x w (.returned (valV uk un us (.slice none 0 0))) w' := fun w' hb =>
    ⟨⟨uk, un, us, none, 0, 0⟩, rfl, by rw [hv]; exact vat_nil 1 w' (ok_fine (flat_okV hok)) rfl, hb⟩
  rw [show itOf (V.mk uk un us []) = ⟨uk, un, us, none, 0, 0⟩ from rfl] at hfirst
  have hb0 : Below w.heap.size w (((w.alloc (.cells #[.int .i64 tk, .int .i64 tO] 41)).alloc (.cells #[.int .i64 x.k, .int .i64 x.n, .string x.s, .slice p x.l.length c] 24)).alloc (.cells #[.int .i64 0, .int .i64 0, .string ⟨#[]⟩, .slice none 0 0] 28)) := (below_two _ _).alloc (by simp; omega) _
  have hR0 := ((Bx.new (w.alloc (.cells #[.int .i64 tk, .int .i64 tO] 41)) 24 #[.int .i64 x.k, .int .i64 x.n, .string x.s, .slice p x.l.length c])).alloc (.cells #[.int .i64 0, .int .i64 0, .string ⟨#[]⟩, .slice none 0 0] 28)
  have hV0 := VBox.new ((w.alloc (.cells #[.int .i64 tk, .int .i64 tO] 41)).alloc (.cells #[.int .i64 x.k, .int .i64 x.n, .string x.s, .slice p x.l.length c] 24)) 0 0 ⟨#[]⟩ (.slice none 0 0)
  have hT0 : TBox (((w.alloc (.cells #[.int .i64 tk, .int .i64 tO] 41)).alloc (.cells #[.int .i64 x.k, .int .i64 x.n, .string x.s, .slice p x.l.length c] 24)).alloc (.cells #[.int .i64 0, .int .i64 0, .string ⟨#[]⟩, .slice none 0 0] 28)) w.heap.size tk tO := ((TBox.new w tk tO).alloc (.cells #[.int .i64 x.k, .int .i64 x.n, .string x.s, .slice p x.l.length c] 24)).alloc (.cells #[.int .i64 0, .int .i64 0, .string ⟨#[]⟩, .slice none 0 0] 28)
  rw [World.size_alloc] at hR0
  rw [World.size_alloc, World.size_alloc] at hV0
  have HFIN := Lib.hid hfin
  have HF := Lib.hid hfirst
  have HB0 := Lib.hid hb0
  have HR0 := Lib.hid hR0
  have HV0 := Lib.hid hV0
  have HT0 := Lib.hid hT0
  clear hfirst hb0 hfin hv hok hul hx hR0 hV0 hT0
  have d5 : (tk == 5) = false := beq_eq_false_iff_ne.2 h5
  go_enter Tryd.func21, Tryd.ntmps21
  go_wp2_with fail
  refine (HF.out _).mono ?_
  rintro e W1 ⟨rfl, hB1⟩
  have hV1 := (HV0.out.below hB1).alloc (.cells #[.int .i64 uk, .int .i64 un, .string us, .slice none 0 0] 28)
  have hz := (HV0.out.below hB1).lt
  have HR1 := Lib.hid ((HR0.out.below hB1).alloc (.cells #[.int .i64 uk, .int .i64 un, .string us, .slice none 0 0] 28))
  have HT1 := Lib.hid ((HT0.out.below hB1).alloc (.cells #[.int .i64 uk, .int .i64 un, .string us, .slice none 0 0] 28))
  have HV2 := Lib.hid (VBox.new W1 uk un us (.slice none 0 0))
  have HB := Lib.hid ((HB0.out.trans (hB1.mono (by simp; omega))).alloc (by omega) (.cells #[.int .i64 uk, .int .i64 un, .string us, .slice none 0 0] 28))
  have HV1 := Lib.hid hV1
  clear hV1 hB1 HB0 HR0 HV0 HT0
  go_wp2_with fail
  generalize W1.alloc (.cells #[.int .i64 uk, .int .i64 un, .string us, .slice none 0 0] 28) = W2 at HR1 HT1 HV2 HB HV1 ⊢
  generalize W1.heap.size = vb at HV2 hz ⊢
  obtain ⟨t0, t1⟩ := HT1.out.facts
  have r3 := HR1.out.at 3 (u := .slice p x.l.length c) rfl
  obtain ⟨⟨c0, c1, c2, c3⟩, f0, f1, f2, f3⟩ := HV2.out.facts
  obtain ⟨⟨e0, e1, e2, e3⟩, g0, g1, g2, g3⟩ := HV1.out.facts
  have hne2 : w.heap.size + 2 ≠ vb := by omega
  have hne3 : vb ≠ w.heap.size + 2 := by omega
  go_loopw [8] (fun s wr => s = .int .i64 0 ∧ wr = W2) (fun s _ => 0)
  case atStart => exact ⟨rfl, rfl⟩
  case round =>
    obtain ⟨rfl, rfl⟩ := hrel
    by_cases hlt : 0 < x.l.length
    · have d1 : decide (0 < x.l.length) = true := decide_eq_true hlt
      go_wp2_with fail
      obtain ⟨hVo, hBo⟩ := out_box HV1.out HB.out (by omega) uk un us (.slice none 0 0)
      unfold putBox at hVo hBo
      generalize ((((wr.setCell ⟨w.heap.size + 2, 0, none⟩ (.int .i64 uk)).setCell ⟨w.heap.size + 2, 1, none⟩ (.int .i64 un)).setCell ⟨w.heap.size + 2, 2, none⟩ (.string us)).setCell ⟨w.heap.size + 2, 3, none⟩ (.slice none 0 0)) = W9 at hVo hBo ⊢
      obtain ⟨⟨x0, x1, x2, x3⟩, _⟩ := hVo.facts
      exact bodyPost_ret (v := valV uk un us (.slice none 0 0)) (by simp [results, Tryd.results21, go_sem, x0, x1, x2, x3]) rfl (HFIN.out _ hBo)
    · have d1 : decide (0 < x.l.length) = false := decide_eq_false hlt
      go_wp2_with fail
      obtain ⟨hVo, hBo⟩ := out_box HV1.out HB.out (by omega) uk un us (.slice none 0 0)
      unfold putBox at hVo hBo
      generalize ((((wr.setCell ⟨w.heap.size + 2, 0, none⟩ (.int .i64 uk)).setCell ⟨w.heap.size + 2, 1, none⟩ (.int .i64 un)).setCell ⟨w.heap.size + 2, 2, none⟩ (.string us)).setCell ⟨w.heap.size + 2, 3, none⟩ (.slice none 0 0)) = W9 at hVo hBo ⊢
      obtain ⟨⟨x0, x1, x2, x3⟩, _⟩ := hVo.facts
      exact bodyPost_ret (v := valV uk un us (.slice none 0 0)) (by simp [results, Tryd.results21, go_sem, x0, x1, x2, x3]) rfl (HFIN.out _ hBo)

theorem valFit_any (tk tO : Int) (h : tk ≠ 5 ∨ tO ≠ 5) (x : Raw) (hx : x.fine) (p : Option Addr) (c : Nat) (w : World) (hL : Lies w (.slice p x.l.length c) x.l.length 3 (rawsCells x.l)) :
    Calls Tryd.prog 21 #[.agg #[.int .i64 tk, .int .i64 tO], .agg #[.int .i64 x.k, .int .i64 x.n, .string x.s, .slice p x.l.length c], .int .i64 500] w (fitPost tk tO x w) := by
  by_cases h5 : tk = 5
  · subst h5
    exact valFit_list tO (h.resolve_left (fun h => h rfl)) x hx p c w hL
  · exact valFit_flat tk tO h5 x hx p c w
end Go.Proofs.YtbmfclankoblfaaDoor

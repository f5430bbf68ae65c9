/- backward: the writes of a disk that are pending, the last one first, as an iterator. -/
import Derived.Shelf.Abstract
import Derived.Shelf.RegionOpen
import Derived.TacticsInMore
import Derived.LoopNIn
import Derived.LoopIn
import Derived.Outline
import Derived.IntWalk
import Derived.Sort.BigQuietIn
import Derived.BigRegionIn
import Derived.Sort.LoopGhostIn
import Derived.Test.YtnoegbogalfdgaaDiskCrash
import Derived.Test.YtnoegbogalfdgaaMidIn
set_option linter.unusedSimpArgs false
set_option linter.unusedVariables false
namespace Go.Proofs.Ytnoegbogalfdgaa
open Go Go.RowKit Go.Shelf Wire
attribute [local go_sem] Oper.semAt_some

set_option maxHeartbeats 1000000 in
theorem backward_any (p : Addr) (w : World) :
    Calls Try.prog 26 #[.pointer (some p)] w fun e w' => e = .returned (.func (.func 28) #[] #[.pointer (some ⟨w.heap.size, 0, none⟩)]) ∧ w' = w.alloc (.cells #[.pointer (some p)] 24) := by
  go_enter Try.func26, Try.ntmps26
  go_wp2_with fail
  go_ret
  exact ⟨rfl, rfl⟩

set_option maxRecDepth 100000 in
set_option maxHeartbeats 2000000 in
/-- J i: i writes were not handed on yet -/
theorem backward1_in (n : Nat) (l r Bx : Nat) (pend : List (Nat × List UInt8)) (hm : pend.length ≤ 100000) (h64 : ∀ p ∈ pend, p.2.length = 64) (p : Option Addr) (c : Nat) (J : Nat → World → Prop) (Jx : World → Prop)
    (hcells : ∀ i W, J i W → W.cell? ⟨Bx, 0, none⟩ = some (.pointer (some ⟨r, 0, none⟩)) ∧ W.cell? ⟨r, 1, none⟩ = some (.slice p pend.length c))
    (hcell : ∀ i W, J i W → ∀ j (hj : j < pend.length), ∃ g, p = some ⟨g, 0, none⟩ ∧ W.rangeAt g (j * 65) (wcells pend[j]))
    (hY : ∀ j W (hj : j < pend.length), J (j + 1) W → YieldAt Fence.wide (n - 1) Try.prog l #[.agg (wcells pend[j]).toArray] W fun e W' =>
      (e = .returned (.bool true) ∧ J j W') ∨ (e = .returned (.bool false) ∧ Jx W'))
    (W : World) (h0 : J pend.length W) :
    CallsIn Fence.wide n Try.prog 28 #[.func (.yield l) #[] #[], .pointer (some ⟨Bx, 0, none⟩)] W fun e W' => (∃ v, e = .returned v) ∧ (J 0 W' ∨ Jx W') := by
  obtain ⟨c1, c2⟩ := hcells _ W h0
  refine callsIn_of_wp Try.func28 rfl trivial ?_ rfl
  simp only [Try.ntmps28, List.size_toArray, List.length_cons, List.length_nil, Nat.reduceAdd, Nat.reduceSub, Array.replicate_succ, Array.replicate_zero, List.push_toArray, List.append_toArray, List.nil_append, List.cons_append]
  gi_wp2
  clear c1 c2
  gi_loopw [3] (fun v wr => ∃ (i : Nat) (z : Int), i ≤ pend.length ∧ v = .int .i64 z ∧ z + 1 = (i : Int) ∧ J i wr) (fun v _ => (intOf v + 1).toNat)
  case atStart => exact ⟨pend.length, _, Nat.le_refl _, rfl, by omega, h0⟩
  case round =>
    obtain ⟨i, z, hi, rfl, hz, hJ⟩ := hrel
    clear h0
    obtain ⟨c1, c2⟩ := hcells _ wr hJ
    by_cases h : 0 < i
    · obtain ⟨j, rfl⟩ : ∃ j, i = j + 1 := ⟨i - 1, by omega⟩
      obtain rfl : z = (j : Int) := by omega
      have hj : j < pend.length := by omega
      obtain ⟨g, hg, hra⟩ := hcell _ wr hJ j hj
      subst hg
      have hw65 : (wcells pend[j]).length = 65 := by simp [wcells, h64 _ (List.getElem_mem hj)]
      have hi65 : (Try.prog.info? 65).map (·.size) = some (wcells pend[j]).length := by rw [hw65]; kernel_rfl
      obtain ⟨fn, tmps, assign, body, hy, hR⟩ := hY j wr hj hJ
      generalize wcells pend[j] = C at hra hw65 hi65 hy
      have HRA := Lib.hid hra
      have HI := Lib.hid hi65
      have d0 : (0 : Int) ≤ (j : Int) := by omega
      have d1 : (j : Int) < (pend.length : Int) := by omega
      clear hra hi65 hw65 hz hcell hcells
      gi_wp2_with (with_reducible refine wpListIn_load_mid rfl 65 _ rfl g (j * 65) rfl C _ HRA.out Try.underlying65 rfl HI.out ?_)
      refine ⟨fun h => (by cases h), hR.mono ?_⟩
      rintro e W5 (⟨rfl, hJ5⟩ | ⟨rfl, hJ5⟩)
      · clear hy hR hJ c1 c2
        gi_wp2
        exact ⟨⟨j, _, by omega, rfl, by omega, hJ5⟩, by simp [intOf]⟩
      · clear hy hR
        gi_wp2
        refine bodyPost_ret (results_none rfl _ _ _) rfl ?_
        exact ⟨⟨_, rfl⟩, .inr hJ5⟩
    · obtain rfl : i = 0 := by omega
      obtain rfl : z = -1 := by omega
      clear hz
      gi_wp2
      go_end0
      exact ⟨⟨_, rfl⟩, .inl hJ⟩
end Go.Proofs.Ytnoegbogalfdgaa

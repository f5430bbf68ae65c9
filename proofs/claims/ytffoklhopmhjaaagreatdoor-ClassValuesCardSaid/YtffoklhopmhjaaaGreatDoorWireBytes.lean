/- (*text).bytes: an iterator over the bytes that were not read yet; it counts them in the text itself. -/
import Derived.Shelf.Abstract
import Derived.Shelf.RegionOpen
import Derived.WalkKit
import Derived.OwnWalkIn
import Derived.TacticsInMore
import Derived.LoopNIn
import Derived.LoopIn
import Derived.Lib.Hide
import Derived.Outline
import Derived.IntWalk
import Derived.Sort.BigQuietIn
import Derived.BigRegionIn
import Derived.Sort.LoopGhostIn
import Derived.Test.YtffoklhopmhjaaaGreatDoorProg
import Derived.Test.YtffoklhopmhjaaaGreatDoorJoint
import Derived.Test.YtffoklhopmhjaaaGreatDoorTail
set_option linter.unusedSimpArgs false
set_option linter.unusedVariables false
namespace Go.Proofs.YtffoklhopmhjaaaGreatDoor
open Go Go.RowKit Go.Shelf
attribute [local go_sem] Oper.semAt_some

set_option maxHeartbeats 400000 in
theorem bytes_in (F : Fence) (n : Nat) (h : F.fn 79) (hro : F.round = none) (p : Addr) (w : World) :
    CallsIn F n Tryz.prog 79 #[.pointer (some p)] w fun e w' => e = .returned (.func (.func 92) #[] #[.pointer (some ⟨w.heap.size, 0, none⟩)]) ∧ w' = w.alloc (.cells #[.pointer (some p)] 152) := by
  refine callsIn_of_wp Tryz.func79 rfl h ?_ hro
  simp only [Tryz.ntmps79, List.size_toArray, List.length_cons, List.length_nil, Nat.reduceAdd, Nat.reduceSub, Array.replicate_succ, Array.replicate_zero, List.push_toArray, List.append_toArray, List.nil_append, List.cons_append]
  gi_wp2
  go_ret
  exact ⟨rfl, rfl⟩

set_option maxRecDepth 100000 in
set_option maxHeartbeats 1000000 in
/-- J p: the bytes ahead of p were read · Jy p: the one at p is handed on -/
theorem bytes1_in (n : Nat) (l R Bx : Nat) (s : ByteArray) (hs : s.size ≤ 9223372036854775807) (a0 : Nat) (ha : a0 ≤ s.size) (J Jy : Nat → World → Prop) (Jx : World → Prop)
    (hcells : ∀ p W, J p W → W.cell? ⟨Bx, 0, none⟩ = some (.pointer (some ⟨R, 0, none⟩)) ∧ W.cell? ⟨R, 0, none⟩ = some (.string s) ∧ W.cell? ⟨R, 1, none⟩ = some (.int .i64 (p : Int)) ∧ W.frozen? ⟨R, 1, none⟩ = false)
    (hcells2 : ∀ p W, Jy p W → W.cell? ⟨Bx, 0, none⟩ = some (.pointer (some ⟨R, 0, none⟩)) ∧ W.cell? ⟨R, 0, none⟩ = some (.string s) ∧ W.cell? ⟨R, 1, none⟩ = some (.int .i64 ((p : Int) + 1)))
    (hstep : ∀ p W, J p W → p < s.size → Jy p (W.setCell ⟨R, 1, none⟩ (.int .i64 ((p : Int) + 1))))
    (hquiet : ∀ p W m, J p W → J p (W.drewN m)) (hquiet2 : ∀ p W m, Jy p W → Jy p (W.drewN m))
    (hY : ∀ p W (hk : p < s.size), Jy p W → YieldAt Fence.wide (n - 1) Tryz.prog l #[.int .u8 ((s[p]'hk).toNat : Int)] W fun e W' =>
      (e = .returned (.bool true) ∧ J (p + 1) W') ∨ (e = .returned (.bool false) ∧ Jx W'))
    (W : World) (h0 : J a0 W) :
    CallsIn Fence.wide n Tryz.prog 92 #[.func (.yield l) #[] #[], .pointer (some ⟨Bx, 0, none⟩)] W fun e W' => (∃ v, e = .returned v) ∧
      (J s.size W' ∨ Jx W') := by
  refine callsIn_of_wp Tryz.func92 rfl trivial ?_ rfl
  simp only [Tryz.ntmps92, List.size_toArray, List.length_cons, List.length_nil, Nat.reduceAdd, Nat.reduceSub, Array.replicate_succ, Array.replicate_zero, List.push_toArray, List.append_toArray, List.nil_append, List.cons_append]
  gi_wp2
  gi_loopg [] (s.size - a0) (fun g wr => ∃ p, J p wr ∧ p + g = s.size)
  case atStart => exact ⟨a0, h0, by omega⟩
  case round =>
    obtain ⟨p, hJ, hg⟩ := hrel
    obtain ⟨c1, c2, c3, c4⟩ := hcells p wr hJ
    by_cases hlt : p < s.size
    · have d1 : decide ((0 : Int) ≤ (p : Int)) = true := by simp
      have d2 : decide (p < s.size) = true := by simp; omega
      have HG := Lib.hid hg; clear hg
      gi_wp2
      gi_big_quiet_th (fail)
      have hjq := hquiet p wr nq hJ
      gi_wp2
      have hjs := hstep p _ hjq hlt
      have f1 : IntKind.i64.wrap (p : Int) = (p : Int) := IntWalk.i64_in _ (by omega)
      have f2 : IntKind.i64.wrap ((p : Int) + 1 - 1) = (p : Int) := by rw [IntWalk.i64_in _ (by omega)]; omega
      obtain ⟨e1, e2, e3⟩ := hcells2 p _ hjs
      refine wpIn_region_quiet_tail 11 (by kernel_rfl) (by kernel_rfl) (by kernel_rfl) ?_
      simp only [List.take_succ_cons, List.take_zero, List.drop_succ_cons, List.drop_zero]
      repeat (gi_big_quiet_step (fail))
      refine wpQuietIn_nil ?_
      rintro _ ⟨nq2, rfl⟩
      obtain ⟨fn, tmps, assign, body, hy, hR⟩ := hY p _ hlt (hquiet2 p _ nq2 hjs)
      gi_wp2
      refine ⟨fun h => (by cases h), hR.mono ?_⟩
      rintro e W5 (⟨rfl, hJ5⟩ | ⟨rfl, hJ5⟩)
      · clear hy hR
        gi_wp2
        gi_roundg (gk - 1)
        case measure => have := HG.out; omega
        case rel => exact ⟨p + 1, hJ5, by have := HG.out; omega⟩
      · clear hy hR
        gi_wp2
        refine bodyPost_ret (results_none rfl _ _ _) rfl ?_
        exact ⟨⟨_, rfl⟩, .inr hJ5⟩
    · have d2 : decide (p < s.size) = false := by simp; omega
      have HG := Lib.hid hg; clear hg
      gi_wp2
      gi_big_quiet_th (fail)
      gi_wp2
      go_end0
      have := HG.out
      obtain rfl : p = s.size := by omega
      exact ⟨⟨_, rfl⟩, .inl (hquiet _ _ _ hJ)⟩
end Go.Proofs.YtffoklhopmhjaaaGreatDoor

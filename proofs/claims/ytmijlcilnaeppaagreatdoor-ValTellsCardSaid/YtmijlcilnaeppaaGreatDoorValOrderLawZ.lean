/- The walk of ValOrder. -/
import Derived.Deep.RegionHeld3
import Derived.Deep.CutBlock
import Derived.Deep.CutRange
import Derived.Test.YtmijlcilnaeppaaGreatDoorBun15
import Derived.Test.YtmijlcilnaeppaaGreatDoorBun16
import Derived.Test.YtmijlcilnaeppaaGreatDoorBun14
set_option linter.unusedSimpArgs false
set_option linter.unusedVariables false
namespace Go.Proofs.YtmijlcilnaeppaaGreatDoor
open Go Go.RowKit Go.Shelf

structure V2Box (W : World) (b : Nat) (v : V) (x : It) : Prop where
  box : VBox W b x.k x.n x.s (.slice x.p x.m x.c)
  at' : VAt 2 W v x
theorem V2Box.below {W W' : World} {b : Nat} {v : V} {x : It} (h : V2Box W b v x) (hb : Below W.heap.size W W') : V2Box W' b v x := ⟨h.box.below hb, h.at'.below hb⟩
theorem V2Box.alloc {W : World} {b : Nat} {v : V} {x : It} (h : V2Box W b v x) (o : Obj) : V2Box (W.alloc o) b v x := h.below ((Below.refl _ _).alloc (Nat.le_refl _) o)
theorem V2Box.new {W : World} {v : V} {x : It} (h : VAt 2 W v x) : V2Box (W.alloc (.cells #[.int .i64 x.k, .int .i64 x.n, .string x.s, .slice x.p x.m x.c] 30)) W.heap.size v x :=
  ⟨VBox.new _ _ _ _ _, h.below ((Below.refl _ _).alloc (Nat.le_refl _) _)⟩

theorem min_cut70 (s : ByteArray) : ∃ m : Nat, m ≤ s.size ∧ m ≤ 70 ∧ (if (70 : Int) < (s.size : Int) then (70 : Int) else (s.size : Int)) = (m : Int) ∧ min (s.size : Int) 70 = (m : Int) := by
  by_cases h : 70 < s.size
  · exact ⟨70, by omega, by omega, by rw [if_pos (by omega)]; rfl, by omega⟩
  · exact ⟨s.size, by omega, by omega, by rw [if_neg (by omega)], by omega⟩
theorem len_of_ok {v : V} (h : v.ok = true) : v.l.length ≤ 12 := by
  by_cases h5 : v.k = 5
  · exact (ok_list h h5).2.1
  · have := (flatOk_parts (ok_flat h h5)).2.2.1
    omega

/-- what lies behind the third value's making -/
def OrdSt (ea : Addr) (w : World) (x : Raw) (p : Option Addr) (c : Nat) (ba : Nat) (a : V) (A : It) (bb : Nat) (b : V) (B : It) (v : Value) (W : World) : Prop :=
  ∃ (bc : Nat) (u : V) (C : It), v = .pointer (some ⟨bc, 0, none⟩) ∧ Ok ea w W ∧ RawBox W w.heap.size x p c ∧ V2Box W ba a A ∧ V2Box W bb b B ∧ V2Box W bc u C
end Go.Proofs.YtmijlcilnaeppaaGreatDoor

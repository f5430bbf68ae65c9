/- class.Field. -/
import Derived.Test.YtffoklhopmhjaaaGreatDoorClsRight
set_option linter.unusedSimpArgs false
set_option linter.unusedVariables false
namespace Go.Proofs.YtffoklhopmhjaaaGreatDoor
open Go Go.RowKit Go.Shelf

/-- what Field tells -/
def fieldPost (fs : List Fl) (nm : ByteArray) (w : World) (e : Ending) (w' : World) : Prop :=
  e = .returned (.tuple #[.int .i64 (((fieldAt fs nm).getD 0 : Nat) : Int), .bool (fieldAt fs nm).isSome]) ∧ Below w.heap.size w w'
set_option maxHeartbeats 2000000 in
set_option maxRecDepth 100000 in
theorem field_any (cn : ByteArray) (p : Option Addr) (m c : Nat) (fs : List Fl) (nm : ByteArray) (w : World) (hl : FLies w p m c fs) (hm : m ≤ 9223372036854775807) :
    Calls Tryz.prog 17 #[clV cn p m c, .string nm] w (fieldPost fs nm w) := by
  obtain rfl := hl.1
  have b1 : Below w.heap.size w (w.alloc (.cells #[.string cn, .slice p fs.length c] 29)) := (Below.refl _ _).alloc (Nat.le_refl _) _
  have b2 : Below w.heap.size w ((w.alloc (.cells #[.string cn, .slice p fs.length c] 29)).alloc (.cells #[.string nm] 9)) := below_two _ _
  have hcb := (CBox.new w cn p fs.length c).alloc (.cells #[.string nm] 9)
  have hnb : ((w.alloc (.cells #[.string cn, .slice p fs.length c] 29)).alloc (.cells #[.string nm] 9)).cell? ⟨w.heap.size + 1, 0, none⟩ = some (.string nm) := cell_second _ _ _ _ _
  have hix := indexFunc_any p fs.length c fs (w.heap.size + 1) nm _ (hl.below b2) hm hnb
  have hpost : fieldPost fs nm w = fun e w' => e = .returned (.tuple #[.int .i64 (((fieldAt fs nm).getD 0 : Nat) : Int), .bool (fieldAt fs nm).isSome]) ∧ Below w.heap.size w w' := rfl
  have hlt : ∀ i, fieldAt fs nm = some i → (i : Int) ≤ 9223372036854775807 := fun i h => by have := fieldAt_lt h; omega
  rw [hpost]
  clear hpost
  generalize fieldAt fs nm = r at hix hlt ⊢
  obtain ⟨c0, c1⟩ := hcb.facts
  have HB2 := Lib.hid b2
  cases r with
  | none =>
    have e1 : ixOf none = -1 := rfl
    have e2 : (((none : Option Nat).getD 0 : Nat) : Int) = 0 := rfl
    have e3 : (none : Option Nat).isSome = false := rfl
    rw [e1] at hix
    rw [e2, e3]
    have HIX := Lib.hid hix
    have d : decide ((-1 : Int) < 0) = true := rfl
    clear hix hl b1 b2 hcb e1 e2 e3
    go_enter Tryz.func17, Tryz.ntmps17
    go_wp2_with fail
    refine HIX.out.mono ?_
    rintro e W1 ⟨rfl, hB1⟩
    have hbw := HB2.out.trans (hB1.mono HB2.out.size)
    go_wp2_with fail
    go_ret2
    exact ⟨rfl, hbw⟩
  | some i =>
    have hi := hlt i rfl
    have e1 : ixOf (some i) = (i : Int) := rfl
    have e2 : (((some i : Option Nat).getD 0 : Nat) : Int) = (i : Int) := rfl
    have e3 : (some i : Option Nat).isSome = true := rfl
    rw [e1] at hix
    rw [e2, e3]
    have HIX := Lib.hid hix
    have d : decide ((i : Int) < 0) = false := decide_eq_false (by omega)
    have d' : ¬ (i : Int) < 0 := by omega
    clear hix hl b1 b2 hcb e1 e2 e3
    go_enter Tryz.func17, Tryz.ntmps17
    go_wp2_with fail
    refine HIX.out.mono ?_
    rintro e W1 ⟨rfl, hB1⟩
    have hbw := HB2.out.trans (hB1.mono HB2.out.size)
    go_wp2_with fail
    go_ret2
    exact ⟨rfl, hbw⟩
end Go.Proofs.YtffoklhopmhjaaaGreatDoor

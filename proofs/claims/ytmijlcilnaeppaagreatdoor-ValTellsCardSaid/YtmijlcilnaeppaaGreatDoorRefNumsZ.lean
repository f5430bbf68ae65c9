/- val.Refs, val.Weaks, morainelaw03.nums. -/
import Derived.Test.YtmijlcilnaeppaaGreatDoorNumsZ
import Derived.Test.YtmijlcilnaeppaaGreatDoorBun14
set_option linter.unusedSimpArgs false
set_option linter.unusedVariables false
namespace Go.Proofs.YtmijlcilnaeppaaGreatDoor
open Go Go.RowKit Go.Shelf

theorem intsPost_trans {ks : List Int} {w w0 w' : World} {e : Ending} (hb : Below w.heap.size w w0) (h : intsPost ks w0 e w') : intsPost ks w e w' := by
  obtain ⟨p, c, h1, h2, h3⟩ := h
  exact ⟨p, c, h1, h2, hb.trans (h3.mono hb.size)⟩
theorem refs_any (d : Nat) (v : V) (x : It) (w : World) (hx : VAt d w v x) (hT : Tabs w) :
    Calls Tryz.prog 14 #[x.v] w (intsPost (numsOf 3 v) w) := by
  have hn := fun W (hb : Below w.heap.size w W) => numbers_any d v x 3 W (hx.below hb) (hT.below hb)
  obtain ⟨xk, xn, xs, p, m, c⟩ := x
  have hb : Below w.heap.size w (w.alloc (.cells #[.int .i64 xk, .int .i64 xn, .string xs, .slice p m c] 30)) := (Below.refl _ _).alloc (Nat.le_refl _) _
  obtain ⟨⟨c0, c1, c2, c3⟩, _⟩ := (VBox.new w xk xn xs (.slice p m c)).facts
  generalize numsOf 3 v = ks at hn ⊢
  have HN := Lib.hid hn
  have HB := Lib.hid hb
  clear hn hb hx hT
  go_enter Tryz.func14, Tryz.ntmps14
  go_wp2_with fail
  refine (HN.out _ HB.out).mono ?_
  rintro e W1 ⟨p', c', rfl, h2, h3⟩
  go_wp2_with fail
  go_ret
  exact ⟨p', c', rfl, h2, HB.out.trans (h3.mono HB.out.size)⟩
theorem weaks_any (d : Nat) (v : V) (x : It) (w : World) (hx : VAt d w v x) (hT : Tabs w) :
    Calls Tryz.prog 16 #[x.v] w (intsPost (numsOf 4 v) w) := by
  have hn := fun W (hb : Below w.heap.size w W) => numbers_any d v x 4 W (hx.below hb) (hT.below hb)
  obtain ⟨xk, xn, xs, p, m, c⟩ := x
  have hb : Below w.heap.size w (w.alloc (.cells #[.int .i64 xk, .int .i64 xn, .string xs, .slice p m c] 30)) := (Below.refl _ _).alloc (Nat.le_refl _) _
  obtain ⟨⟨c0, c1, c2, c3⟩, _⟩ := (VBox.new w xk xn xs (.slice p m c)).facts
  generalize numsOf 4 v = ks at hn ⊢
  have HN := Lib.hid hn
  have HB := Lib.hid hb
  clear hn hb hx hT
  go_enter Tryz.func16, Tryz.ntmps16
  go_wp2_with fail
  refine (HN.out _ HB.out).mono ?_
  rintro e W1 ⟨p', c', rfl, h2, h3⟩
  go_wp2_with fail
  go_ret
  exact ⟨p', c', rfl, h2, HB.out.trans (h3.mono HB.out.size)⟩

set_option maxHeartbeats 1000000 in
set_option maxRecDepth 100000 in
theorem nums_same (ks : List Int) (hk : ks.length ≤ 1000) (p : Option Addr) (c : Nat) (q : Option Addr) (d : Nat) (w : World) (hL : Lies w (.slice p ks.length c) ks.length 1 (nints ks)) (hL' : Lies w (.slice q ks.length d) ks.length 1 (nints ks)) :
    Calls Tryz.prog 13 #[.slice p ks.length c, .slice q ks.length d] w fun e w' => e = .returned (.bool true) ∧ Below w.heap.size w w' := by
  have hne : ((ks.length : Int) != (ks.length : Int)) = false := by simp
  have HL := Lib.hid hL
  have HL' := Lib.hid hL'
  clear hL hL'
  go_enter Tryz.func13, Tryz.ntmps13
  go_wp2_with fail
  go_loopw [5] (fun s wr => ∃ i : Nat, i ≤ ks.length ∧ s = .int .i64 (i : Int) ∧ Below w.heap.size w wr) (fun s _ => ks.length - (intOf s).toNat)
  case atStart => exact ⟨0, by omega, rfl, Below.refl _ _⟩
  case round =>
    obtain ⟨i, hil, rfl, hB⟩ := hrel
    by_cases hlt : i < ks.length
    · have d1 : decide ((i : Int) < (ks.length : Int)) = true := decide_eq_true (by omega)
      have d1' : decide (i < ks.length) = true := decide_eq_true hlt
      have d0 : (0 : Int) ≤ (i : Int) := by omega
      have d3 : (i : Int) < (ks.length : Int) := by omega
      obtain ⟨b, off, rfl, hb, hc⟩ := HL.out.at (by omega)
      obtain ⟨b', off', rfl, hb', hc'⟩ := HL'.out.at (by omega)
      have hd : Below w.heap.size w wr.drew := hB.drew
      have z1 : wr.drew.cell? ⟨b, off + i, none⟩ = some (.int .i64 (ks[i]'hlt)) := by rw [hd.cell (p := ⟨b, off + i, none⟩) hb]; exact hc _ _ (nints_at ks i hlt)
      have z2 : wr.drew.cell? ⟨b', off' + i, none⟩ = some (.int .i64 (ks[i]'hlt)) := by rw [hd.cell (p := ⟨b', off' + i, none⟩) hb']; exact hc' _ _ (nints_at ks i hlt)
      generalize ks[i]'hlt = k at z1 z2
      have dk : (k != k) = false := by simp
      clear hc hc' hb hb'
      go_wp2_with fail
      go_region
      go_wp2_with fail
      exact ⟨⟨i + 1, by omega, by go_num, hd⟩, by simp [intOf]; omega⟩
    · have d1 : decide ((i : Int) < (ks.length : Int)) = false := decide_eq_false (by omega)
      have d1' : decide (i < ks.length) = false := decide_eq_false hlt
      go_wp2_with fail
      go_ret
      exact ⟨rfl, hB⟩
end Go.Proofs.YtmijlcilnaeppaaGreatDoor

/- ReadNum(s, at). -/
import Derived.Test.YtffoklhopmhjaaaGreatDoorWireNumOut
import Derived.Test.YtffoklhopmhjaaaGreatDoorErrIs
import Derived.BigQuiet
import Derived.Deep.QuietTactic
set_option linter.unusedSimpArgs false
set_option linter.unusedVariables false
namespace Go.Proofs.YtffoklhopmhjaaaGreatDoor
open Go Go.RowKit Go.Shelf Go.Sort

/-- a number's bytes stand in s from at on -/
def readsNum (s : ByteArray) (p v : Int) : Prop := 0 ≤ p ∧ p ≤ s.size ∧ Wire.inRange v ∧ Wire.num v <+: s.data.toList.drop p.toNat

theorem readsNum_unique {s : ByteArray} {p v v' : Int} (h : readsNum s p v) (h' : readsNum s p v') : v = v' := Wire.num_inj h.2.2.1 h'.2.2.1 h.2.2.2 h'.2.2.2

/-- number, at whatever place -/
theorem number_any (s : ByteArray) (hs : s.size ≤ 9223372036854775807) (R : Nat) (p : Int) (ea : Addr) (w : World) (hR : ReaderAt w R s p)
    (hE : w.cell? ⟨0, 0, none⟩ = some (.iface 180 (.pointer (some ea)))) (hR0 : R ≠ 0) :
    Calls Tryz.prog 57 #[.pointer (some ⟨R, 0, none⟩)] w fun e w' => w.grownBy w' (some R) ∧
      ((∃ v : Int, readsNum s p v ∧ e = .returned (.tuple #[.int .i64 v, .nilIface]) ∧ ReaderAt w' R s (p + (Wire.num v).length)) ∨
       ((∀ v : Int, ¬ readsNum s p v) ∧ e = .returned (.tuple #[.int .i64 0, .iface 180 (.pointer (some ea))]) ∧ ∃ q, ReaderAt w' R s q)) := by
  refine (callsIn_wide (n := 9)).1 ?_
  by_cases h : 0 ≤ p ∧ p ≤ s.size
  · obtain ⟨a0, rfl⟩ := Int.eq_ofNat_of_zero_le h.1
    refine (number_in s hs R a0 (by omega) ea w hR hE hR0).mono ?_
    rintro e w' ⟨hg, (⟨v, h1, h2, h3, h4⟩ | ⟨h1, h2, h3⟩)⟩
    · refine ⟨hg, .inl ⟨v, ⟨h.1, h.2, h1, by simpa using h2⟩, h3, ?_⟩⟩
      rw [← Int.natCast_add]; exact h4
    · exact ⟨hg, .inr ⟨fun v ⟨_, _, a, b⟩ => h1 v a (by simpa using b), h2, h3⟩⟩
  · refine (number_out s R p (by omega) ea w hR hE hR0).mono ?_
    rintro e w' ⟨hg, he, hq⟩
    exact ⟨hg, .inr ⟨fun v ⟨a, b, _, _⟩ => h ⟨a, b⟩, he, hq⟩⟩

theorem below_drewN {B : Nat} {w W : World} (h : Below B w W) (n : Nat) : Below B w (W.drewN n) := ⟨h.os, h.tape, h.output, h.size, h.block⟩

/-- what ReadNum answers -/
def readNumPost (s : ByteArray) (p : Int) (w : World) (e : Ending) (w' : World) : Prop :=
  Below w.heap.size w w' ∧
  ((∃ v : Int, readsNum s p v ∧ e = .returned (.tuple #[.int .i64 v, .int .i64 (p + (Wire.num v).length), .int .i64 0])) ∨
   ((∀ v : Int, ¬ readsNum s p v) ∧ e = .returned (.tuple #[.int .i64 0, .int .i64 0, .int .i64 10])))

set_option maxRecDepth 100000 in
set_option maxHeartbeats 1000000 in
theorem readNum_any (s : ByteArray) (hs : s.size ≤ 9223372036854775807) (p : Int) (ea : Addr) (w : World)
    (hE : w.cell? ⟨0, 0, none⟩ = some (.iface 180 (.pointer (some ea)))) :
    Calls Tryz.prog 29 #[.string s, .int .i64 p] w (readNumPost s p w) := by
  have h0 : 0 < w.heap.size := World.block_lt_of_cell? _ _ hE
  have hn0 : w.heap.size ≠ 0 := by omega
  go_enter Tryz.func29, Tryz.ntmps29
  go_wp2_with fail
  have hb1 : Below w.heap.size w (w.alloc (.cells #[.string s, .int .i64 p] 109)) := (Below.refl _ w).alloc (Nat.le_refl _) _
  have hR : ReaderAt (w.alloc (.cells #[.string s, .int .i64 p] 109)) w.heap.size s p := World.alloc_heap_new w _
  have hE1 : (w.alloc (.cells #[.string s, .int .i64 p] 109)).cell? ⟨0, 0, none⟩ = some (.iface 180 (.pointer (some ea))) := (hb1.cell (p := ⟨0, 0, none⟩) h0).trans hE
  refine (number_any s hs _ p ea _ hR hE1 hn0).mono ?_
  rintro e w1 ⟨hg, hcase⟩
  have hE2 : w1.cell? ⟨0, 0, none⟩ = some (.iface 180 (.pointer (some ea))) := (World.cell?_of_block (hg.block 0 (by simp) (by simpa using hn0.symm))).trans hE1
  have hB : Below w.heap.size w w1 := hb1.grown hg (by simp) (fun k e => by cases e; exact Nat.le_refl _)
  clear hR hE1 hg hb1
  obtain ⟨v, hv, rfl, hr⟩ | ⟨hno, rfl, q, hr⟩ := hcase
  · have r1 := hr.cell1
    go_wp2_with (go_at_call 58; refine (is_nil ea _).mono ?_; rintro e w2 ⟨rfl, rfl⟩)
    go_quiet (fail)
    go_wp2
    go_ret3
    exact ⟨below_drewN hB nq, .inl ⟨v, hv, rfl⟩⟩
  · go_wp2_with (go_at_call 58; refine (is_same ea _).mono ?_; rintro e w2 ⟨rfl, rfl⟩)
    go_ret3
    exact ⟨hB, .inr ⟨hno, rfl⟩⟩
end Go.Proofs.YtffoklhopmhjaaaGreatDoor

/- pick and Full of the disk's law. -/
import Derived.IntWalk
import Derived.Test.YtepdncpgcpndoaaDiskCrash
set_option linter.unusedSimpArgs false
set_option linter.unusedVariables false
namespace Wire
/-- which of n things a raw number speaks of -/
def pickOf (c : Int) (n : Nat) : Nat := (if c < 0 then (-(c + 1)).toNat else c.toNat) % n
theorem pickOf_lt (c : Int) {n : Nat} (h : 0 < n) : pickOf c n < n := Nat.mod_lt _ h
/-- a sector of a text's bytes, so many of them laid -/
def fullTo (s : List UInt8) (i : Nat) : List UInt8 := (List.range 64).map fun j => if j < i then s.getD (j % s.length) 0 else 0
def fullOf (s : List UInt8) : List UInt8 := fullTo s 64
theorem fullTo_length (s : List UInt8) (i : Nat) : (fullTo s i).length = 64 := by simp [fullTo]
theorem fullOf_length (s : List UInt8) : (fullOf s).length = 64 := fullTo_length s 64
theorem fullTo_nil : fullTo [] 0 = fullOf [] := by decide
theorem fullTo_succ (s : List UInt8) (i : Nat) (hi : i < 64) : (fullTo s i).set i (s.getD (i % s.length) 0) = fullTo s (i + 1) := by
  apply List.ext_getElem
  · simp [fullTo]
  · intro k h1 h2
    simp only [fullTo, List.getElem_set, List.getElem_map, List.getElem_range]
    by_cases e : i = k
    · subst e; simp
    · rw [if_neg e]
      by_cases hk : k < i
      · rw [if_pos hk, if_pos (by omega)]
      · rw [if_neg hk, if_neg (by omega)]
end Wire
namespace Go.Proofs.Ytepdncpgcpndoaa
open Go Go.RowKit Wire

set_option maxHeartbeats 1000000 in
theorem pick_any (c : Int) (n : Nat) (hc : -9223372036854775808 ≤ c ∧ c ≤ 9223372036854775807) (hn : 0 < n) (hn2 : n ≤ 9223372036854775807) (w : World) :
    Calls Try.prog 17 #[.int .i64 c, .int .i64 (n : Int)] w fun x w' => x = .returned (.int .i64 (pickOf c n : Int)) ∧ w = w' := by
  by_cases h : c < 0
  · obtain ⟨m, hm⟩ : ∃ m : Nat, -(c + 1) = (m : Int) := ⟨(-(c + 1)).toNat, by omega⟩
    have hp : pickOf c n = m % n := by unfold pickOf; rw [if_pos h, hm]; rfl
    have f1 : IntKind.i64.wrap (c + 1) = c + 1 := IntWalk.i64_in _ (by omega)
    have f2 : IntKind.i64.wrap (-(c + 1)) = (m : Int) := by rw [IntWalk.i64_in _ (by omega), hm]
    have hm2 : (m : Int) ≤ 9223372036854775807 := by omega
    have f3 : -(c + 1) = (m : Int) := hm
    have HP := Lib.hid hp; clear hp hm
    go_enter Try.func17, Try.ntmps17
    go_wp2
    go_ret
    exact ⟨by rw [HP.out]; rfl, rfl⟩
  · obtain ⟨m, rfl⟩ : ∃ m : Nat, c = (m : Int) := ⟨c.toNat, by omega⟩
    have hp : pickOf m n = m % n := by unfold pickOf; rw [if_neg h]; rfl
    have HP := Lib.hid hp; clear hp
    go_enter Try.func17, Try.ntmps17
    go_wp2
    go_ret
    exact ⟨by rw [HP.out]; rfl, rfl⟩

theorem infoByte : (Try.prog.info? 5).map (fun i => (i.zero, i.size, i.bytes)) = some (some (.int .u8 0), 1, 1) := by kernel_rfl
theorem made_full (s : List UInt8) : madeCells (Value.int .u8 0).cells 64 = ((fullTo s 0).map u8c).toArray := by
  apply Array.ext
  · simp [madeCells, fullTo]
  · intro i h1 h2
    simp [madeCells, fullTo, Value.cells, Nat.mod_one, u8c]

set_option maxHeartbeats 2000000 in
theorem full_any (s : ByteArray) (hs : s.size ≤ 9223372036854775807) (w : World) :
    Calls Try.prog 18 #[.string s] w fun x w' => x = .returned (.string ⟨(fullOf s.data.toList).toArray⟩) ∧ Below w.heap.size w w' := by
  obtain ⟨i0, hi, hz0, hz1, hz2⟩ := info_parts infoByte
  have hmk : (Instr.makeSlice 67 (.int .i64 64) (.int .i64 64)).run Try.prog w = .ok (.slice (some ⟨w.heap.size, 0, none⟩) 64 64) (w.alloc (.cells ((fullTo s.data.toList 0).map u8c).toArray 5)) := by
    have := run_make (P := Try.prog) w 67 5 i0 _ Try.underlying67 hi hz0 .i64 .i64 64 64 (by decide) (by decide) (by rw [hz2]; decide) (by decide)
    rw [hz1] at this
    rw [← made_full s.data.toList]
    exact this
  clear hi hz0 hz1 hz2
  go_enter Try.func18, Try.ntmps18
  go_wp2_with fail
  have hBm : Below w.heap.size w (w.alloc (.cells ((fullTo s.data.toList 0).map u8c).toArray 5)) := (Below.refl _ _).alloc (Nat.le_refl _) _
  have hm0 : BytesAt (w.alloc (.cells ((fullTo s.data.toList 0).map u8c).toArray 5)) w.heap.size 5 (fullTo s.data.toList 0) := World.alloc_heap_new w _
  generalize w.alloc (.cells ((fullTo s.data.toList 0).map u8c).toArray 5) = W0 at hBm hm0 ⊢
  clear hmk
  have conv : ∀ wr : World, BytesAt wr w.heap.size 5 (fullOf s.data.toList) → (convert 67 9 (.slice (some ⟨w.heap.size, 0, none⟩) 64 64)).run Try.prog wr = .ok (.string ⟨(fullOf s.data.toList).toArray⟩) wr := fun wr h => by
    have := run_convert_bytes_back (P := Try.prog) wr 67 9 5 ⟨w.heap.size, 0, none⟩ 64 (fullOf s.data.toList) Try.underlying67 Try.underlying5 Try.underlying9 (fun j hj => by
      rw [show (⟨w.heap.size, 0, none⟩ : Addr).add j = ⟨w.heap.size, j, none⟩ from by unfold Addr.add; split <;> simp_all]
      exact h.cell hj)
    rw [fullOf_length] at this
    exact this
  have CV := Lib.hid conv
  clear conv
  go_loopw [4] (fun v wr => ∃ i : Nat, i ≤ 64 ∧ (s.size = 0 → i = 0) ∧ v = .int .i64 (i : Int) ∧ Below w.heap.size w wr ∧ BytesAt wr w.heap.size 5 (fullTo s.data.toList i)) (fun v _ => 64 - (intOf v).toNat)
  case atStart => exact ⟨0, Nat.zero_le _, fun _ => rfl, rfl, hBm, hm0⟩
  case round =>
    obtain ⟨i, hi, hi0, rfl, hBi, hmi⟩ := hrel
    clear hBm hm0
    by_cases h0 : s.size = 0
    · obtain rfl := hi0 h0
      have he : s.data.toList = [] := List.eq_nil_of_length_eq_zero (by simpa using h0)
      rw [he, fullTo_nil, ← he] at hmi
      have hcv := CV.out wr hmi
      clear hmi he hi0
      go_wp2_with fail
      go_ret
      exact ⟨rfl, hBi⟩
    · by_cases hil : i < 64
      · have hm : i % s.size < s.size := Nat.mod_lt _ (by omega)
        have hset := hmi.set i s[i % s.size]
        have hs2 : (fullTo s.data.toList i).set i s[i % s.size] = fullTo s.data.toList (i + 1) := by
          rw [← fullTo_succ _ _ hil]
          congr 1
          have hl : s.data.toList.length = s.size := by simp
          rw [hl, List.getD_eq_getElem?_getD, List.getElem?_eq_getElem (by rw [hl]; exact hm)]
          rfl
        rw [hs2] at hset
        have hcm := hmi.cell (i := i) (by rw [fullTo_length]; exact hil)
        have hfm := hmi.frozen i
        have hBn : Below w.heap.size w (wr.setCell ⟨w.heap.size, i, none⟩ (u8c s[i % s.size])) := hBi.setCell (p := ⟨w.heap.size, i, none⟩) (Nat.le_refl _) _
        have HS := Lib.hid hset
        have d0 : (0 : Int) ≤ (i : Int) := by omega
        have d1 : (i : Int) < 64 := by omega
        have d2 : (0 : Int) < (s.size : Int) := by omega
        have d3 : decide (0 < s.size) = true := decide_eq_true (by omega)
        have d4 : ((s.size : Int) == 0) = false := beq_eq_false_iff_ne.2 (by omega)
        clear hmi hs2 hset
        go_wp2_with fail
        exact ⟨⟨i + 1, by omega, fun h => absurd h h0, by go_num, hBn, HS.out⟩, by simp [intOf]; omega⟩
      · obtain rfl : i = 64 := by omega
        have hcv := CV.out wr hmi
        clear hmi hi0
        go_wp2_with fail
        go_ret
        exact ⟨rfl, hBi⟩
end Go.Proofs.Ytepdncpgcpndoaa

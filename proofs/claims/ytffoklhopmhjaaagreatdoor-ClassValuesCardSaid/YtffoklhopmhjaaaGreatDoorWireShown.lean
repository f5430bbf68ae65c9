/- shown(): what each statement asks first. -/
import Derived.Laws.MakeOwn
import Derived.Test.YtffoklhopmhjaaaGreatDoorWireReadText
import Derived.Test.YtffoklhopmhjaaaGreatDoorWireSum
set_option linter.unusedSimpArgs false
set_option linter.unusedVariables false
namespace Go.Proofs.YtffoklhopmhjaaaGreatDoor
open Go Go.RowKit Go.Shelf Go.Sort

theorem num300 : Wire.num 300 = [216, 4] := by
  simp [Wire.num, Wire.groups_split, Wire.mOf, Wire.sOf, Wire.restGroups_pos, Wire.restGroups_zero, Wire.laidOf]
theorem num0 : Wire.num 0 = [0] := by
  simp [Wire.num, Wire.groups_split, Wire.mOf, Wire.sOf, Wire.restGroups_zero, Wire.laidOf]
theorem numM1 : Wire.num (-1) = [1] := by
  simp [Wire.num, Wire.groups_split, Wire.mOf, Wire.sOf, Wire.restGroups_zero, Wire.laidOf]
theorem num2 : Wire.num 2 = [4] := by
  simp [Wire.num, Wire.groups_split, Wire.mOf, Wire.sOf, Wire.restGroups_zero, Wire.laidOf]
theorem crc9 : Wire.crc [49, 50, 51, 52, 53, 54, 55, 56, 57] = 3421780262 := by decide +kernel

theorem reads300 : readsNum ⟨#[97, 216, 4, 98]⟩ 1 300 := by
  refine ⟨by decide, by decide, ⟨by decide, by decide⟩, ?_⟩
  rw [num300]; exact ⟨[98], rfl⟩
theorem reads80 (v : Int) : ¬ readsNum ⟨#[128]⟩ 0 v := by
  rintro ⟨_, _, h, h'⟩
  exact Wire.num_none (k := 1) (by decide) (.inr (by decide)) v h h'
theorem reads8000 (v : Int) : ¬ readsNum ⟨#[128, 0]⟩ 0 v := by
  rintro ⟨_, _, h, h'⟩
  have h' : Wire.num v <+: [128, 0] := h'
  have := Wire.num_unique (k := 1) (b := 0) rfl (by decide) (by decide) h h'
  have e : Wire.valOf (Wire.dec ([128, 0].take (1 + 1))) = 0 := by decide
  rw [e] at this
  obtain ⟨rfl, hl⟩ := this
  rw [num0] at hl
  cases hl
theorem readsHi : readsText ⟨#[4, 104, 105, 120]⟩ 0 [104, 105] := by
  refine ⟨by decide, by decide, by decide, ?_⟩
  show (Wire.num 2 ++ _) <+: _
  rw [num2]; exact ⟨[120], rfl⟩

theorem infoU8' : (Tryz.prog.info? 5).map (fun i => (i.zero, i.size, i.bytes)) = some (some (.int .u8 0), 1, 1) := by kernel_rfl

/-- the error of wire lies as start-up laid it -/
def errLies (ea : Addr) (w : World) : Prop := w.cell? ⟨0, 0, none⟩ = some (.iface 180 (.pointer (some ea)))
theorem errLies.below {ea : Addr} {w W : World} (h : errLies ea w) (hb : Below w.heap.size w W) : errLies ea W := (hb.cell (p := ⟨0, 0, none⟩) (World.block_lt_of_cell? _ _ h)).trans h

theorem readNum_some {s : ByteArray} (hs : s.size ≤ 9223372036854775807) {p v : Int} (h : readsNum s p v) {ea : Addr} {w : World} (hE : errLies ea w) :
    Calls Tryz.prog 29 #[.string s, .int .i64 p] w fun e w' => e = .returned (.tuple #[.int .i64 v, .int .i64 (p + (Wire.num v).length), .int .i64 0]) ∧ Below w.heap.size w w' :=
  (readNum_any s hs p ea w hE).mono fun e w' ⟨hb, hc⟩ => by
    rcases hc with ⟨v', h', rfl⟩ | ⟨hno, _⟩
    · rw [readsNum_unique h h']; exact ⟨rfl, hb⟩
    · exact (hno v h).elim
theorem readNum_none {s : ByteArray} (hs : s.size ≤ 9223372036854775807) {p : Int} (h : ∀ v, ¬ readsNum s p v) {ea : Addr} {w : World} (hE : errLies ea w) :
    Calls Tryz.prog 29 #[.string s, .int .i64 p] w fun e w' => e = .returned (.tuple #[.int .i64 0, .int .i64 0, .int .i64 10]) ∧ Below w.heap.size w w' :=
  (readNum_any s hs p ea w hE).mono fun e w' ⟨hb, hc⟩ => by
    rcases hc with ⟨v', h', rfl⟩ | ⟨_, rfl⟩
    · exact (h v' h').elim
    · exact ⟨rfl, hb⟩
theorem readsText_unique {s : ByteArray} (hs : s.size ≤ 9223372036854775807) {p : Int} {t t' : List UInt8} (h : readsText s p t) (h' : readsText s p t') : t = t' := by
  have e := readsNum_unique (readsText_num hs h) (readsText_num hs h')
  have e' : t.length = t'.length := by omega
  obtain ⟨_, _, _, h4⟩ := h
  obtain ⟨_, _, _, h4'⟩ := h'
  rw [e'] at h4
  have := (List.prefix_of_prefix_length_le h4 h4' (by simp; omega)).eq_of_length (by simp; omega)
  exact List.append_cancel_left this
theorem readText_some {s : ByteArray} (hs : s.size ≤ 9223372036854775807) {p : Int} {t : List UInt8} (h : readsText s p t) {ea : Addr} {w : World} (hE : errLies ea w) :
    Calls Tryz.prog 31 #[.string s, .int .i64 p] w fun e w' => e = .returned (.tuple #[.string ⟨t.toArray⟩, .int .i64 (p + (Wire.num t.length).length + t.length), .int .i64 0]) ∧ Below w.heap.size w w' :=
  (readText_any s hs p ea w hE).mono fun e w' ⟨hb, hc⟩ => by
    rcases hc with ⟨t', h', rfl⟩ | ⟨hno, _⟩
    · rw [readsText_unique hs h h']; exact ⟨rfl, hb⟩
    · exact (hno t h).elim
theorem readText_none {s : ByteArray} (hs : s.size ≤ 9223372036854775807) {p : Int} (h : ∀ t, ¬ readsText s p t) {ea : Addr} {w : World} (hE : errLies ea w) :
    Calls Tryz.prog 31 #[.string s, .int .i64 p] w fun e w' => e = .returned (.tuple #[.string ⟨#[]⟩, .int .i64 0, .int .i64 10]) ∧ Below w.heap.size w w' :=
  (readText_any s hs p ea w hE).mono fun e w' ⟨hb, hc⟩ => by
    rcases hc with ⟨t', h', rfl⟩ | ⟨_, rfl⟩
    · exact (h t' h').elim
    · exact ⟨rfl, hb⟩

def noughts (n : Nat) : Array Value := madeCells #[.int .u8 0] n
def noughtsText (n : Nat) : ByteArray := ⟨(List.replicate n 0).toArray⟩
theorem noughtsText_size (n : Nat) : (noughtsText n).size = n := by
  show (List.replicate n (0 : UInt8)).toArray.size = n
  simp

/-- ten thousand and one noughts as a text -/
theorem noughts_string (w : World) (n : Nat) : (convert 64 9 (.slice (some ⟨w.heap.size, 0, none⟩) n n)).run Tryz.prog (w.alloc (.cells (noughts n) 5)) =
    .ok (.string (noughtsText n)) (w.alloc (.cells (noughts n) 5)) := by
  unfold noughts noughtsText
  have := run_convert_bytes_back (P := Tryz.prog) (w.alloc (.cells (madeCells #[.int .u8 0] n) 5)) 64 9 5 ⟨w.heap.size, 0, none⟩ n (List.replicate n 0) Tryz.underlying64 Tryz.underlying5 Tryz.underlying9 (fun j hj => by
    have hj' : j < n := by simpa using hj
    rw [show (⟨w.heap.size, 0, none⟩ : Addr).add j = ⟨w.heap.size, j, none⟩ from by unfold Addr.add; split <;> simp_all]
    rw [cell_of_row _ w.heap.size j _ 5 (0, 0) (World.alloc_heap_new w _)]
    simp [madeCells, hj', Nat.mod_one])
  simp only [List.length_replicate] at this
  exact this

theorem noughts_make (w : World) : (Instr.makeSlice 64 (.int .i64 10001) (.int .i64 10001)).run Tryz.prog w = .ok (.slice (some ⟨w.heap.size, 0, none⟩) 10001 10001) (w.alloc (.cells (noughts 10001) 5)) := by
  obtain ⟨i0, hi, hz0, hz1, hz2⟩ := info_parts infoU8'
  have := run_make (P := Tryz.prog) w 64 5 i0 (.int .u8 0) Tryz.underlying64 hi hz0 .i64 .i64 10001 10001 (by decide) (by decide) (by rw [hz2]; decide) (by decide)
  rw [hz1, Nat.mul_one] at this
  exact this

end Go.Proofs.YtffoklhopmhjaaaGreatDoor

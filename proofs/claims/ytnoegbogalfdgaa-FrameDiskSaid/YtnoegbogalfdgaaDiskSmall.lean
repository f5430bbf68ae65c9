/- The small calls of a disk: has, power, Pending, Size, Cut, New. -/
import Derived.Test.YtnoegbogalfdgaaDiskAt
import Derived.Test.YtnoegbogalfdgaaProg
import Derived.RegionTactic
import Derived.BigRegion
import Derived.Laws.OwnMore
import Derived.RangeFuncRecord
set_option linter.unusedSimpArgs false
set_option linter.unusedVariables false
namespace Go.Proofs.Ytnoegbogalfdgaa
open Go Go.RowKit Wire

section
variable {B r kb : Nat} {W : World} {pv : Value} {d : DS}

/-- one of the disk's four cells, set -/
theorem DAt.setBox (h : DAt B W r kb pv d) {i : Nat} {v : Value} {pv' : Value} {d' : DS} (hb : (#[.slice (some ⟨kb, 0, none⟩) d.kept.length d.kept.length, pv, .bool d.cut, .int .i64 (d.left : Int)] : Array Value).setIfInBounds i v = #[.slice (some ⟨kb, 0, none⟩) d'.kept.length d'.kept.length, pv', .bool d'.cut, .int .i64 (d'.left : Int)])
    (hk : d'.kept = d.kept) (hp : W.ownsRow B 65 65 pv' d'.pend.length (pcells d'.pend)) (hg : d'.good) (hpr : pv'.ownBlock ≠ some r) : DAt B (W.setCell ⟨r, i, none⟩ v) r kb pv' d' := by
  have h1 := heap_setCell_same W r i _ _ v h.box
  rw [hb] at h1
  refine ⟨h1, ?_, ⟨hp.1, ?_⟩, h.lor, h.lok, hg⟩
  · rw [Below.heap_setCell W ⟨r, i, none⟩ v kb h.rk.symm, hk]; exact h.kept
  · rcases hp.2 with h0 | ⟨g, cap, cur, hv, hb', hg', hr⟩
    · exact .inl h0
    · refine .inr ⟨g, cap, cur, hv, hb', ?_, hr⟩
      rw [Below.heap_setCell W ⟨r, i, none⟩ v g (fun e => hpr (by rw [hv, e]; rfl))]; exact hg'
theorem only_box (h : DAt B W r kb pv d) (i : Nat) (v : Value) : Only W (W.setCell ⟨r, i, none⟩ v) r kb pv :=
  ⟨by simp [World.setCell], fun k _ h1 _ _ => Below.heap_setCell W ⟨r, i, none⟩ v k h1⟩

set_option maxHeartbeats 1000000 in
theorem has_yes (h : DAt B W r kb pv d) (at' : Nat) (ha : at' < d.kept.length) : Calls Try.prog 24 #[.pointer (some ⟨r, 0, none⟩), .int .i64 (at' : Int)] W fun x W' => x = .returned (.bool true) ∧ W = W' := by
  have c0 := h.c0
  have d1 : decide (at' < d.kept.length) = true := decide_eq_true ha
  go_enter Try.func24, Try.ntmps24
  go_wp2
  go_ret
  exact ⟨by simp, rfl⟩
set_option maxHeartbeats 1000000 in
theorem has_no (h : DAt B W r kb pv d) (at' : Int) (ha : at' < 0 ∨ (d.kept.length : Int) ≤ at') : Calls Try.prog 24 #[.pointer (some ⟨r, 0, none⟩), .int .i64 at'] W fun x W' => x = .returned (.bool false) ∧ W = W' := by
  have c0 := h.c0
  rcases ha with ha | ha
  all_goals
    go_enter Try.func24, Try.ntmps24
    go_wp2
    all_goals go_ret
    all_goals exact ⟨by simp <;> omega, rfl⟩

/-- a call's power spent -/
def DS.spend (d : DS) : DS := if d.cut then ⟨d.kept, d.pend, d.cut, d.left - 1⟩ else d
theorem DS.spend_good (h : d.good) : d.spend.good := by
  unfold DS.spend
  split
  · exact ⟨h.k64, h.p64, h.few, Nat.le_trans (Nat.sub_le _ _) h.left⟩
  · exact h

set_option maxHeartbeats 1000000 in
theorem power_on (h : DAt B W r kb pv d) (hp : d.cut = false ∨ 0 < d.left) (hz : B ≤ W.heap.size) : Calls Try.prog 25 #[.pointer (some ⟨r, 0, none⟩)] W fun x W' => x = .returned (.bool true) ∧ Did B W W' r kb pv pv d.spend := by
  have c2 := h.c2
  have c3 := h.c3
  have fz := h.fz 3
  obtain ⟨kept, pend, cut, left⟩ := d
  cases cut with
  | false =>
    have H := Lib.hid h
    clear h
    go_enter Try.func25, Try.ntmps25
    go_wp2
    go_ret
    exact ⟨rfl, Did.same H.out (Below.refl _ _) hz⟩
  | true =>
    obtain ⟨l, rfl⟩ : ∃ l, left = l + 1 := ⟨left - 1, by rcases hp with hp | hp <;> simp at hp; omega⟩
    have hl := h.good.left
    have e1 : (((l + 1 : Nat) : Int) == 0) = false := by rw [beq_eq_false_iff_ne]; omega
    have e2 : ((l + 1 : Nat) : Int) - 1 = (l : Int) := by omega
    have e3 : IntKind.i64.wrap ((l : Int) + 1 - 1) = (l : Int) := by rw [show (l : Int) + 1 - 1 = (l : Int) from by omega]; exact IntWalk.i64_in _ (by simp at hl; omega)
    have e4 : wrap64 (l : Int) = (l : Int) := IntWalk.wrap64_in _ (by simp at hl; omega)
    have H := Lib.hid h
    clear h hp hl
    go_enter Try.func25, Try.ntmps25
    go_wp2
    go_ret
    refine ⟨rfl, ?_⟩
    have hsp : (⟨kept, pend, true, l + 1⟩ : DS).spend = ⟨kept, pend, true, l⟩ := rfl
    rw [hsp]
    have hgd := DS.spend_good H.out.good
    rw [hsp] at hgd
    exact ⟨H.out.setBox rfl rfl H.out.pend hgd H.out.pr, (Below.refl _ _).setCell (p := ⟨r, 3, none⟩) H.out.lor _, only_box H.out 3 _, fun _ hq => .inl hq⟩
set_option maxHeartbeats 1000000 in
theorem power_off (h : DAt B W r kb pv d) (hp : d.cut = true) (hl : d.left = 0) : Calls Try.prog 25 #[.pointer (some ⟨r, 0, none⟩)] W fun x W' => x = .returned (.bool false) ∧ W = W' := by
  have c2 := h.c2
  have c3 := h.c3
  rw [hp] at c2
  rw [hl] at c3
  clear h hp hl
  go_enter Try.func25, Try.ntmps25
  go_wp2
  go_ret
  exact ⟨rfl, rfl⟩

set_option maxHeartbeats 1000000 in
theorem pending_any (h : DAt B W r kb pv d) : Calls Try.prog 16 #[.pointer (some ⟨r, 0, none⟩)] W fun x W' => x = .returned (.int .i64 (d.pend.length : Int)) ∧ W = W' := by
  have c1 := h.c1
  obtain ⟨p, c, hv, _⟩ := h.form
  rw [hv] at c1
  clear h hv
  go_enter Try.func16, Try.ntmps16
  go_wp2
  go_ret
  exact ⟨rfl, rfl⟩
theorem infoSector : (Try.prog.info? 63).map (fun i => (i.zero, i.size, i.bytes)) = some (some (.agg (Array.replicate 64 (.int .u8 0))), 64, 64) := by kernel_rfl
set_option maxHeartbeats 1000000 in
theorem new_bad (n : Int) (hn : n < 1 ∨ 768 < n) (w : World) : Calls Try.prog 6 #[.int .i64 n] w fun x w' => x = .returned (.tuple #[.pointer none, .int .i64 2]) ∧ w = w' := by
  rcases hn with hn | hn
  all_goals
    go_enter Try.func6, Try.ntmps6
    go_wp2
    all_goals go_ret2
    all_goals exact ⟨rfl, rfl⟩
/-- a disk of noughts -/
def zeros (n : Nat) : DS := ⟨List.replicate n (List.replicate 64 0), [], false, 0⟩
theorem zeros_good (n : Nat) (h : n ≤ 768) : (zeros n).good :=
  ⟨fun s hs => by rw [List.eq_of_mem_replicate hs]; simp, fun p hp => by simp [zeros] at hp, by simp [zeros]; exact h, by simp [zeros]⟩
theorem kcells_zeros (n : Nat) : kcells (zeros n).kept = List.replicate (n * 64) (.int .u8 0) := by
  unfold kcells zeros
  induction n with
  | zero => rfl
  | succ n ih =>
    rw [List.replicate_succ, List.flatMap_cons, ih, List.map_replicate, show u8c 0 = Value.int .u8 0 from rfl, List.replicate_append_replicate]
    congr 1; omega
theorem made_zeros (n : Nat) : madeCells (Value.agg (Array.replicate 64 (.int .u8 0))).cells (n * 64) = (List.replicate (n * 64) (Value.int .u8 0)).toArray := by
  have hc : (Value.agg (Array.replicate 64 (.int .u8 0))).cells = Array.replicate 64 (.int .u8 0) := rfl
  rw [hc]
  apply Array.ext
  · simp [madeCells]
  · intro i h1 h2
    simp only [madeCells, Array.getElem_map, Array.getElem_range, Array.size_replicate, List.getElem_toArray, List.getElem_replicate]
    have := Nat.mod_lt i (show 0 < 64 by decide)
    rw [getElem!_pos _ _ (by simpa using this)]
    simp
set_option maxHeartbeats 1000000 in
theorem new_ok (n : Nat) (h1 : 1 ≤ n) (h2 : n ≤ 768) (B : Nat) (w : World) (hz : B ≤ w.heap.size) : Calls Try.prog 6 #[.int .i64 (n : Int)] w fun x w' => ∃ r kb, x = .returned (.tuple #[.pointer (some ⟨r, 0, none⟩), .int .i64 0]) ∧ DAt B w' r kb (.slice none 0 0) (zeros n) ∧ Below w.heap.size w w' ∧ w.heap.size ≤ r ∧ w.heap.size ≤ kb := by
  obtain ⟨i0, hi, hz0, hz1, hz2⟩ := info_parts infoSector
  have hmk : ∀ w : World, (Instr.makeSlice 53 (.int .i64 (n : Int)) (.int .i64 (n : Int))).run Try.prog w = .ok (.slice (some ⟨w.heap.size, 0, none⟩) n n) (w.alloc (.cells (kcells (zeros n).kept).toArray 63)) := fun w => by
    have := run_make (P := Try.prog) w 53 63 i0 _ Try.underlying53 hi hz0 .i64 .i64 (n : Int) (n : Int) (by omega) (Int.le_refl _) (by rw [hz2]; omega) (by omega)
    rw [Int.toNat_natCast, hz1] at this
    rw [this, kcells_zeros]
    congr 2
    congr 1
    exact made_zeros n
  go_enter Try.func6, Try.ntmps6
  go_wp2_with fail
  go_ret2
  refine ⟨w.heap.size + 1, w.heap.size, rfl, ?_, ((Below.refl _ _).alloc (Nat.le_refl _) _).alloc (by simp) _, by omega, by omega⟩
  have hb := World.alloc_heap_new (w.alloc (.cells (kcells (zeros n).kept).toArray 63)) (.cells #[.slice (some ⟨w.heap.size, 0, none⟩) n n, .slice none 0 0, .bool false, .int .i64 0] 56)
  rw [World.size_alloc] at hb
  have hl : (zeros n).kept.length = n := by simp [zeros]
  refine ⟨by rw [hl]; exact hb, (Go.heap_alloc_old _ _ (by simp)).trans (World.alloc_heap_new w _), World.ownsRow_nil _ _ _ _, by omega, hz, zeros_good n h2⟩
end
end Go.Proofs.Ytnoegbogalfdgaa

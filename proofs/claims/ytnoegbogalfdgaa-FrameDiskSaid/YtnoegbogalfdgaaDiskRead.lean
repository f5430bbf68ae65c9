/- Read of a disk. -/
import Derived.Scope
import Derived.Test.YtnoegbogalfdgaaDiskBack
import Derived.Test.YtnoegbogalfdgaaJointMade
import Derived.Deep.RegionHeld3
set_option linter.unusedSimpArgs false
set_option linter.unusedVariables false
namespace Wire
/-- what is there of a sector: the newest write of it, or what is kept -/
def lastOf (kept : List UInt8) (pend : List (Nat × List UInt8)) (a : Nat) : List UInt8 := pend.foldl (fun f w => if w.1 = a then w.2 else f) kept
theorem lastOf_snoc (kept : List UInt8) (pend : List (Nat × List UInt8)) (w : Nat × List UInt8) (a : Nat) : lastOf kept (pend ++ [w]) a = if w.1 = a then w.2 else lastOf kept pend a := by
  simp [lastOf, List.foldl_append]
/-- of the writes from the i-th on none is of this sector: then the first i tell -/
theorem lastOf_take (kept : List UInt8) (pend : List (Nat × List UInt8)) (a i : Nat) (h : ∀ j (hj : j < pend.length), i ≤ j → pend[j].1 ≠ a) : lastOf kept (pend.take i) a = lastOf kept pend a := by
  by_cases hi : i < pend.length
  · have := lastOf_take kept pend a (i + 1) (fun j hj h1 => h j hj (by omega))
    rw [← this, List.take_succ_eq_append_getElem hi, lastOf_snoc, if_neg (h i hi (Nat.le_refl _))]
  · rw [List.take_of_length_le (by omega)]
termination_by pend.length - i
end Wire
namespace Go.Proofs.Ytnoegbogalfdgaa
open Go Go.RowKit Wire
attribute [local go_sem] Oper.semAt_some

/-- what lies while Read looks for a sector's newest write: the disk, what was found so far, the place, the iterator's own cell -/
structure RdI (B : Nat) (W : World) (r kb : Nat) (pv : Value) (d : DS) (fb xb bb : Nat) (at' : Nat) (f : List UInt8) (X : World) : Prop where
  disk : DAt B X r kb pv d
  found : BytesAt X fb 63 f
  place : X.heap[xb]? = some (.cells #[.int .i64 (at' : Int)] 3 (0, 0))
  box : X.heap[bb]? = some (.cells #[.pointer (some ⟨r, 0, none⟩)] 24 (0, 0))
  below : Below W.heap.size W X
section
variable {B r kb fb xb bb at' : Nat} {W X X' : World} {pv : Value} {d : DS} {f : List UInt8}
theorem RdI.own {row : Option Nat} (h : RdI B W r kb pv d fb xb bb at' f X) (hg : X.grownBy X' row) (hr : ∀ q, row = some q → W.heap.size ≤ q ∧ ∃ o : Obj, X.heap[q]? = some o ∧ o.isCells = false) : RdI B W r kb pv d fb xb bb at' f X' := by
  have keep : ∀ (k : Nat) (c : Array Value) (t : TypeId), X.heap[k]? = some (.cells c t (0, 0)) → X'.heap[k]? = X.heap[k]? := fun k c t hk => hg.block k (Array.getElem?_eq_some_iff.1 hk).1 (fun e => by
    obtain ⟨_, o, ho, hc⟩ := hr k e.symm
    rw [hk] at ho; cases ho; cases hc)
  refine ⟨h.disk.blocks (keep _ _ _ h.disk.box) (keep _ _ _ h.disk.kept) (fun q hq => ?_), (keep _ _ _ h.found).trans h.found, (keep _ _ _ h.place).trans h.place, (keep _ _ _ h.box).trans h.box, ⟨hg.os.trans h.below.os, hg.tape.trans h.below.tape, hg.output.trans h.below.output, Nat.le_trans h.below.size hg.size, fun k hk => (hg.block k (Nat.lt_of_lt_of_le hk h.below.size) (fun e => ?_)).trans (h.below.block k hk)⟩⟩
  · obtain ⟨cur, hc⟩ := h.disk.pblock hq
    exact keep _ _ _ hc
  · obtain ⟨h1, _⟩ := hr k e.symm; omega
theorem RdI.alloc (h : RdI B W r kb pv d fb xb bb at' f X) (o : Obj) : RdI B W r kb pv d fb xb bb at' f (X.alloc o) :=
  h.own (World.grownBy_alloc X o none) (fun q e => by cases e)
theorem RdI.put (h : RdI B W r kb pv d fb xb bb at' f X) {D : Nat} (hD : W.heap.size ≤ D) (hd : X.heap[D]? = some (.deferred (some []))) (o : Obj) : RdI B W r kb pv d fb xb bb at' f (X.putObj D o) :=
  h.own (grownBy_putObj' X D o) (fun q e => by cases e; exact ⟨hD, _, hd, rfl⟩)
/-- what is found turns -/
theorem RdI.find (h : RdI B W r kb pv d fb xb bb at' f X) (hf : W.heap.size ≤ fb) (hx : xb ≠ fb) (hb : bb ≠ fb) (hr : r < fb) (hk : kb < fb) (hp : ∀ q, pv.ownBlock = some q → q < fb) (g : List UInt8) : RdI B W r kb pv d fb xb bb at' g (X.setRow fb (g.map u8c).toArray) := by
  have o : ∀ k, k ≠ fb → (X.setRow fb (g.map u8c).toArray).heap[k]? = X.heap[k]? := fun k hk => setRow_other X fb k _ hk
  refine ⟨h.disk.blocks (o _ (by omega)) (o _ (by omega)) (fun q hq => o _ (by have := hp q hq; omega)), h.found.row g, (o _ hx).trans h.place, (o _ hb).trans h.box, ⟨h.below.os, h.below.tape, h.below.output, ?_, fun k hk => (o _ (by omega)).trans (h.below.block k hk)⟩⟩
  have := h.below.size
  simpa [World.setRow] using this
end

/-- what a body that ends in a return must achieve, deferred calls and all: no panic, nothing else -/
def retM (n : Nat) (fn : Func) (R : Ending → World → Prop) : Exit → Act → World → Prop
  | .ret, a, w => LeavesInM Fence.wide n Try.prog fn a.tmps R a.defers .returning w
  | _, _, _ => False
theorem retM_body (n : Nat) (fn : Func) (R : Ending → World → Prop) : ∀ e a w, retM n fn R e a w → bodyPostM Fence.wide n Try.prog fn R e a w := fun e _ _ h => by
  cases e <;> first | exact h | exact h.elim

theorem keeps_row {Y : World} {b : Nat} {c : Array Value} {t : TypeId} (h : Y.heap[b]? = some (.cells c t (0, 0))) (c' : Array Value) (B : Nat) : KeepsFrom B Y (Y.setRow b c') := by
  have hg : Y.grownBy (Y.setRow b c') (some b) := ⟨rfl, rfl, rfl, by simp [World.setRow], fun k _ hk => setRow_other Y b k _ (fun e => hk (by rw [e]))⟩
  exact (KeepsOthers.of_grownBy hg (fun b o e ho => by cases e; rw [h] at ho; cases ho; rfl)).from _
/-- a sector's bytes as a text -/
theorem conv_sec {W : World} {fb : Nat} {f : List UInt8} (h : BytesAt W fb 63 f) (hl : f.length = 64) :
    (convert 60 9 (.slice (some ⟨fb, 0, none⟩) 64 64)).run Try.prog W = .ok (.string ⟨f.toArray⟩) W := by
  have := run_convert_bytes_back (P := Try.prog) W 60 9 5 ⟨fb, 0, none⟩ 64 f Try.underlying60 Try.underlying5 Try.underlying9 (fun j hj => by
    rw [show (⟨fb, 0, none⟩ : Addr).add j = ⟨fb, j, none⟩ from by unfold Addr.add; split <;> simp_all]
    exact h.cell hj)
  rw [hl] at this
  exact this

theorem zero_sec : ∃ Z : Array Value, Z.size = 64 ∧ ∀ w : World, (zeroValue 63).run Try.prog w = .ok (.agg Z) w := ⟨Array.replicate 64 (.int .u8 0), by simp, fun w => by kernel_rfl⟩

section
variable {B r kb : Nat} {W : World} {pv : Value} {d : DS}
set_option maxHeartbeats 1000000 in
theorem read_away (h : DAt B W r kb pv d) (at' : Int) (hb : at' < 0 ∨ (d.kept.length : Int) ≤ at') :
    Calls Try.prog 12 #[.pointer (some ⟨r, 0, none⟩), .int .i64 at'] W fun x W' => x = .returned (.tuple #[.string ⟨#[]⟩, .int .i64 20]) ∧ Below W.heap.size W W' := by
  have hB : Below W.heap.size W (W.alloc (.cells #[.int .i64 at'] 3)) := (Below.refl _ _).alloc (Nat.le_refl _) _
  have hno := has_no (h.alloc (.cells #[.int .i64 at'] 3)) at' hb
  have HN := Lib.hid hno
  clear hb hno
  go_enter Try.func12, Try.ntmps12
  go_wp2_with fail
  refine wp_scope_straight ?_
  go_wp2_with fail
  refine HN.out.mono ?_
  rintro x W1 ⟨rfl, rfl⟩
  go_wp2_with fail
  unfold Exit.noGoto
  dsimp only
  first | (go_ret2; exact ⟨rfl, hB⟩) | (go_ret; exact ⟨rfl, hB⟩)

set_option maxRecDepth 100000 in
set_option maxHeartbeats 2000000 in
theorem read_ok (h : DAt B W r kb pv d) (at' : Nat) (ha : at' < d.kept.length) (hn : d.pend.length ≤ 100000) :
    Calls Try.prog 12 #[.pointer (some ⟨r, 0, none⟩), .int .i64 (at' : Int)] W fun x W' => x = .returned (.tuple #[.string ⟨(lastOf d.kept[at'] d.pend at').toArray⟩, .int .i64 0]) ∧ Below W.heap.size W W' := by
  have hD1 := h.alloc (.cells #[.int .i64 (at' : Int)] 3)
  have hb1 : Below W.heap.size W (W.alloc (.cells #[.int .i64 (at' : Int)] 3)) := (Below.refl _ _).alloc (Nat.le_refl _) _
  have hyes := has_yes hD1 at' ha
  have hx1 : (W.alloc (.cells #[.int .i64 (at' : Int)] 3)).heap[W.heap.size]? = some (.cells #[.int .i64 (at' : Int)] 3 (0, 0)) := World.alloc_heap_new W _
  have HY := Lib.hid hyes
  clear hyes
  obtain ⟨Z, hZs, hzv⟩ := zero_sec
  have HZS := Lib.hid hZs
  clear hZs
  refine callsIn_wide.1 (callsIn_of_wp_marks (n := 9) Try.func12 rfl trivial (wpIn_wide.2 (Code.wp_mono (retM_body 9 _ _) ?_)) rfl)
  simp only [Try.ntmps12, List.size_toArray, List.length_cons, List.length_nil, Nat.reduceAdd, Nat.reduceSub, Array.replicate_succ, Array.replicate_zero, List.push_toArray, List.append_toArray, List.nil_append, List.cons_append]
  go_wp2_with fail
  refine wp_scope_straight ?_
  go_wp2_with fail
  refine HY.out.mono ?_
  rintro x W1 ⟨rfl, rfl⟩
  clear HY
  generalize W.alloc (.cells #[.int .i64 (at' : Int)] 3) = W1 at hD1 hb1 hx1 ⊢
  go_wp2_with fail
  have HD := Lib.hid hD1
  have HX := Lib.hid hx1
  have HB := Lib.hid hb1
  refine wp_region_held_drew (S := fun W' => W'.cell? ⟨r, 0, none⟩ = some (.slice (some ⟨kb, 0, none⟩) d.kept.length d.kept.length) ∧ W'.cell? ⟨W.heap.size, 0, none⟩ = some (.int .i64 (at' : Int)) ∧ W'.rangeAt kb (at' * 64) (d.kept[at'].map u8c)) (by kernel_rfl) ?_ (fun hHeld => ?_)
  · exact ⟨HD.out.c0, cell_of_row _ _ 0 _ _ (0, 0) HX.out, fun j v hv => (cell_of_row _ _ (at' * 64 + j) _ _ (0, 0) HD.out.kept).trans (by simpa using kcells_at d.kept at' ha HD.out.good.k64 j v hv)⟩
  have hDX := HD.out.drew
  have hBX : Below W.heap.size W W1.drew := HB.out.drew
  have hXX : W1.drew.heap[W.heap.size]? = some (.cells #[.int .i64 (at' : Int)] 3 (0, 0)) := HX.out
  have hr1 : r < W1.drew.heap.size := hDX.rlt
  have hk1 : kb < W1.drew.heap.size := hDX.klt
  have hw1 : W.heap.size < W1.drew.heap.size := (Array.getElem?_eq_some_iff.1 hXX).1
  have hk64 : d.kept[at'].length = 64 := HD.out.good.k64 _ (List.getElem_mem _)
  have hm64 : (d.kept[at'].map u8c).length = 64 := by rw [List.length_map]; exact hk64
  have his : (Try.prog.info? 63).map (·.size) = some (d.kept[at'].map u8c).length := by rw [hm64]; kernel_rfl
  have HI := Lib.hid his
  have a0 : (0 : Int) ≤ (at' : Int) := by omega
  have a1 : (at' : Int) < (d.kept.length : Int) := by omega
  have HM := Lib.hid hm64
  clear his hm64 hD1 hb1 hx1 HD HB HX
  generalize W1.drew = X at hDX hBX hXX hr1 hk1 hw1 hHeld ⊢
  have HD := Lib.hid hDX
  have HB := Lib.hid hBX
  have HX := Lib.hid hXX
  clear hDX hBX hXX
  refine wpAnyH_take (i := 0) (v := ?v0) rfl (by kernel_rfl) (by kernel_rfl) (by kernel_rfl) (fun _ _ _ h => h) (Or.inl ⟨by rfl, ?y0⟩) hHeld ?r0
  case y0 => (intro w hSw; obtain ⟨q1, q2, _⟩ := hSw; go_simp; try with_reducible rfl)
  try simp only [Act.put, List.setIfInBounds_toArray, List.set_cons_zero, List.set_cons_succ, List.getElem_toArray, List.getElem_cons_succ, List.getElem_cons_zero]
  refine wpAnyH_take (i := 1) (v := ?v1) rfl (by kernel_rfl) (by kernel_rfl) (by kernel_rfl) (fun _ _ _ h => h) (Or.inl ⟨by rfl, ?y1⟩) hHeld ?r1
  case y1 => (intro w hSw; obtain ⟨q1, q2, _⟩ := hSw; go_simp; try with_reducible rfl)
  try simp only [Act.put, List.setIfInBounds_toArray, List.set_cons_zero, List.set_cons_succ, List.getElem_toArray, List.getElem_cons_succ, List.getElem_cons_zero]
  refine wpAnyH_take (i := 2) (v := ?v2) rfl (by kernel_rfl) (by kernel_rfl) (by kernel_rfl) (fun _ _ _ h => h) (Or.inl ⟨by rfl, ?y2⟩) hHeld ?r2
  case y2 => (intro w hSw; obtain ⟨q1, q2, _⟩ := hSw; go_simp; try with_reducible rfl)
  try simp only [Act.put, List.setIfInBounds_toArray, List.set_cons_zero, List.set_cons_succ, List.getElem_toArray, List.getElem_cons_succ, List.getElem_cons_zero]
  refine wpAnyH_take (i := 3) (v := ?v3) rfl (by kernel_rfl) (by kernel_rfl) (by kernel_rfl) (fun _ _ _ h => h) (Or.inl ⟨by rfl, ?y3⟩) hHeld ?r3
  case y3 => (intro w hSw; obtain ⟨q1, q2, _⟩ := hSw; go_simp; try with_reducible rfl)
  try simp only [Act.put, List.setIfInBounds_toArray, List.set_cons_zero, List.set_cons_succ, List.getElem_toArray, List.getElem_cons_succ, List.getElem_cons_zero]
  refine wpAnyH_take (i := 4) (v := ?v4) rfl (by kernel_rfl) (by kernel_rfl) (by kernel_rfl) (fun _ _ _ h => h) (Or.inl ⟨by rfl, ?y4⟩) hHeld ?r4
  case y4 => (intro w hSw; obtain ⟨q1, q2, _⟩ := hSw; go_simp; try with_reducible rfl)
  try simp only [Act.put, List.setIfInBounds_toArray, List.set_cons_zero, List.set_cons_succ, List.getElem_toArray, List.getElem_cons_succ, List.getElem_cons_zero]
  refine wpAnyH_take (i := 5) (v := ?v5) rfl (by kernel_rfl) (by kernel_rfl) (by kernel_rfl) (fun _ _ _ h => h) (Or.inl ⟨by rfl, ?y5⟩) hHeld ?r5
  case y5 => (intro w hSw; obtain ⟨q1, q2, _⟩ := hSw; go_simp; try with_reducible rfl)
  try simp only [Act.put, List.setIfInBounds_toArray, List.set_cons_zero, List.set_cons_succ, List.getElem_toArray, List.getElem_cons_succ, List.getElem_cons_zero]
  refine wpAnyH_take (i := 6) (v := _) rfl (by kernel_rfl) (by kernel_rfl) (by kernel_rfl) (fun _ _ _ h => h) (yieldsIf_load_mid (by rfl) 63 _ rfl kb (at' * 64) rfl (d.kept[at'].map u8c) _ (fun w h => h.2.2) Try.underlying63 rfl HI.out) hHeld ?r6
  try simp only [Act.put, List.setIfInBounds_toArray, List.set_cons_zero, List.set_cons_succ, List.getElem_toArray, List.getElem_cons_succ, List.getElem_cons_zero]
  refine wpAnyH_ready (rs := [7]) (by kernel_rfl) (by simp) ?_
  refine AllReadyH.cons (i := 7) rfl (fun K hK => ?_) AllReadyH.nil
  go_simp
  refine hK.out _ _ ⟨?_, ?_, ?_⟩ (fun hHeld => ?_)
  · exact (World.cell?_alloc_lt _ _ _ hr1).trans hHeld.1
  · exact (World.cell?_alloc_lt _ _ _ hw1).trans hHeld.2.1
  · exact World.rangeAt_alloc hHeld.2.2 _
  clear hK K
  try simp only [Act.put, List.setIfInBounds_toArray, List.set_cons_zero, List.set_cons_succ]
  refine wpAnyH_ready (rs := [8]) (by kernel_rfl) (by simp) ?_
  refine AllReadyH.cons (i := 8) rfl (fun K hK => ?_) AllReadyH.nil
  rw [if_pos (by rfl)]
  refine wp_store_row 63 _ _ rfl X.heap.size (d.kept[at'].map u8c).toArray rfl rfl 63 Z (World.alloc_heap_new X _) (by rw [List.size_toArray]; exact HI.out) (by rw [HZS.out, List.size_toArray, HM.out]) (all_oneCell_toArray (fun v hv => by obtain ⟨c, _, rfl⟩ := List.mem_map.1 hv; rfl)) ?_
  rw [World.setRow_alloc_new]
  refine hK.out _ _ ⟨?_, ?_, ?_⟩ (fun hHeld => ?_)
  · exact (HD.out.alloc _).c0
  · exact (World.cell?_alloc_lt _ _ _ hw1).trans (cell_of_row _ _ 0 _ _ (0, 0) HX.out)
  · exact fun j v hv => (cell_of_row _ _ (at' * 64 + j) _ _ (0, 0) (HD.out.alloc _).kept).trans (by simpa using kcells_at d.kept at' ha HD.out.good.k64 j v hv)
  clear hK K
  try simp only [Act.put, List.setIfInBounds_toArray, List.set_cons_zero, List.set_cons_succ]
  refine wpAnyH_done (by kernel_rfl) ?_ _
  have hD3 := HD.out.alloc (.cells (d.kept[at'].map u8c).toArray 63)
  have hf3 : BytesAt (X.alloc (.cells (d.kept[at'].map u8c).toArray 63)) X.heap.size 63 d.kept[at'] := World.alloc_heap_new X _
  have hx3 : (X.alloc (.cells (d.kept[at'].map u8c).toArray 63)).heap[W.heap.size]? = some (.cells #[.int .i64 (at' : Int)] 3 (0, 0)) := (Go.heap_alloc_old X _ hw1).trans HX.out
  have hB3 : Below W.heap.size W (X.alloc (.cells (d.kept[at'].map u8c).toArray 63)) := HB.out.alloc HB.out.size _
  clear hHeld
  generalize X.alloc (.cells (d.kept[at'].map u8c).toArray 63) = X3 at hD3 hf3 hx3 hB3 ⊢
  have hbk := backward_any ⟨r, 0, none⟩ X3
  have HBK := Lib.hid hbk
  clear hbk
  go_wp2_with fail
  refine wp_label ?_
  go_wp2_with fail
  refine HBK.out.mono ?_
  rintro x W4 ⟨rfl, rfl⟩
  clear HBK
  go_wp2_with fail
  have hp : ∀ q, pv.ownBlock = some q → q < X.heap.size := fun q hq => HD.out.plt hq
  have hfl : X.heap.size < X3.heap.size := hf3.lt
  have hI : RdI B W r kb pv d X.heap.size W.heap.size X3.heap.size at' d.kept[at'] (X3.alloc (.cells #[.pointer (some ⟨r, 0, none⟩)] 24)) :=
    ⟨hD3.alloc _, hf3.alloc _, (Go.heap_alloc_old X3 _ (by omega)).trans hx3, World.alloc_heap_new X3 _, hB3.alloc hB3.size _⟩
  obtain ⟨pp, c, hv, hpc⟩ := h.form
  have hfm : 0 < d.pend.length → ∃ g, pp = some ⟨g, 0, none⟩ := fun h0 => by
    obtain ⟨g, cap, hg, _⟩ := h.pend.form h0
    rw [hv] at hg
    simp at hg
    exact ⟨g, hg.1⟩
  have hx0 : W.heap.size ≤ X.heap.size := HB.out.size
  have hg := h.good
  clear hD3 hf3 hx3 hB3 HD HB HX hzv HZS HI HM a0 a1 hHeld h
  have hw3 : W.heap.size ≤ (X3.alloc (.cells #[.pointer (some ⟨r, 0, none⟩)] 24)).heap.size := by simp; omega
  generalize hbb : X3.heap.size = bb at hfl hI hw3 ⊢
  have hbx : W.heap.size < X.heap.size := hw1
  generalize X.heap.size = fb at *
  generalize X3.alloc (.cells #[.pointer (some ⟨r, 0, none⟩)] 24) = X4 at hI hw3 ⊢
  clear hbb
  have HG := Lib.hid hg
  have HV := Lib.hid hv
  have HFM := Lib.hid hfm
  have HI := Lib.hid hI
  have HP := Lib.hid hp
  have HK := Lib.hid hk64
  clear hg hv hfm hI hp hk64
  refine wp_rangeFunc_made 9 (by decide) (gf := 28) (lb := #[.pointer (some ⟨bb, 0, none⟩)]) rfl (enters_of Try.func28 (by kernel_rfl) rfl)
    (fun x : { j : Nat // j < d.pend.length } => #[.agg (wcells (d.pend[x.1]'x.2)).toArray]) (fun _ => rfl)
    (fun x Y => RdI B W r kb pv d fb W.heap.size bb at' d.kept[at'] Y ∧ ∀ j (hj : j < d.pend.length), x.1 + 1 ≤ j → d.pend[j].1 ≠ at')
    (fun x Y => RdI B W r kb pv d fb W.heap.size bb at' d.kept[at'] Y ∧ ∀ j (hj : j < d.pend.length), x.1 ≤ j → d.pend[j].1 ≠ at')
    (fun co x Y => co = .exit 0 ∧ RdI B W r kb pv d fb W.heap.size bb at' (d.pend[x.1]'x.2).2 Y ∧ (d.pend[x.1]'x.2).1 = at' ∧ ∀ j (hj : j < d.pend.length), x.1 + 1 ≤ j → d.pend[j].1 ≠ at')
    (fun _ Y => RdI B W r kb pv d fb W.heap.size bb at' d.kept[at'] Y ∧ ∀ j (hj : j < d.pend.length), 0 ≤ j → d.pend[j].1 ≠ at') ?ob ?og ?ox ?od
    (fun x a Y => ∃ wb, Y.heap[wb]? = some (.cells (wcells (d.pend[x.1]'x.2)).toArray 65 (0, 0)) ∧ RdI B W r kb pv d fb W.heap.size bb at' d.kept[at'] Y ∧ (∀ j (hj : j < d.pend.length), x.1 + 1 ≤ j → d.pend[j].1 ≠ at') ∧
      a = { tmps := #[.pointer (some ⟨r, 0, none⟩), .int .i64 (at' : Int), undef, .pointer (some ⟨W.heap.size, 0, none⟩), .string ⟨#[]⟩, .int .i64 0, .pointer (some ⟨fb, 0, none⟩), .pointer (some ⟨wb, 0, none⟩), .pointer (some ⟨r, 0, none⟩), .bool false, .pointer (some ⟨r, 0, none⟩), .int .i64 (at' : Int), .bool true, .bool false, .pointer (some ⟨r, 0, none⟩), .pointer (some ⟨r, 0, none⟩), .pointer (some ⟨r, 0, none⟩), .slice (some ⟨kb, 0, none⟩) d.kept.length d.kept.length, .int .i64 (at' : Int), .pointer (some ⟨kb, at' * 64, none⟩), .agg (d.kept[at'].map u8c).toArray, .pointer (some ⟨r, 0, none⟩), .func (.func 28) #[] #[.pointer (some ⟨bb, 0, none⟩)], .agg (wcells (d.pend[x.1]'x.2)).toArray, undef, undef, undef, undef, undef, undef, undef, undef], defers := [] }) ?oa ?assign ?body ?seq ?done ?stop
  case ob => exact fun x Y Y' row h hg hr => ⟨h.1.own hg (fun q e => ⟨Nat.le_trans hw3 (hr q e).1, (hr q e).2⟩), h.2⟩
  case og => exact fun x Y Y' row h hg hr => ⟨h.1.own hg (fun q e => ⟨Nat.le_trans hw3 (hr q e).1, (hr q e).2⟩), h.2⟩
  case od => exact fun x Y Y' row h hg hr => ⟨h.1.own hg (fun q e => ⟨Nat.le_trans hw3 (hr q e).1, (hr q e).2⟩), h.2⟩
  case ox => exact fun co x Y Y' row h hg hr => ⟨h.1, h.2.1.own hg (fun q e => ⟨Nat.le_trans hw3 (hr q e).1, (hr q e).2⟩), h.2.2⟩
  case oa =>
    rintro a x Y Y' row ⟨wb, hwb, h1, h2, h3⟩ hg hr
    exact ⟨wb, (hg.block wb (Array.getElem?_eq_some_iff.1 hwb).1 (fun e => by
      obtain ⟨_, o, ho, hc⟩ := hr wb e.symm
      rw [hwb] at ho; cases ho; cases hc)).trans hwb, h1.own hg (fun q e => ⟨Nat.le_trans hw3 (hr q e).1, (hr q e).2⟩), h2, h3⟩
  case assign =>
    rintro l ⟨j, hj⟩ Y K ⟨hR, hno⟩ hY hK
    obtain ⟨q, hq⟩ : ∃ q, q = d.pend[j]'hj := ⟨_, rfl⟩
    have hw65 : (wcells q).length = 65 := by rw [hq]; simp [wcells, (HG.out.p64 _ (List.getElem_mem hj)).1]
    have hi65' : (Try.prog.info? 65).map (·.size) = some (wcells q).toArray.size := by rw [List.size_toArray, hw65]; kernel_rfl
    obtain ⟨Zw, hZws, hzvw⟩ := zero_any
    have HW := Lib.hid (⟨hw65, hi65', hZws⟩ : (wcells q).length = 65 ∧ (Try.prog.info? 65).map (·.size) = some (wcells q).toArray.size ∧ Zw.size = 65)
    dsimp only at hK ⊢
    rw [← hq] at hK ⊢
    have HKK := Lib.hid hK
    clear hK hq hw65 hi65' hZws
    gi_wp2_with (with_reducible refine wpListIn_store_row rfl 65 _ _ rfl Y.heap.size (wcells q).toArray rfl rfl 65 Zw (World.alloc_heap_new Y _) HW.out.2.1 (by rw [HW.out.2.2, List.size_toArray, HW.out.1]) (all_oneCell_toArray (wcells_one q)) ?_; rw [World.setRow_alloc_new])
    exact HKK.out _ _ ((KeepsOthers.alloc _ _).from _) ⟨_, World.alloc_heap_new Y _, hR.alloc _, hno, rfl⟩
  case body =>
    rintro l ⟨j, hj⟩ a Y ⟨wb, hwb, hR, hno, rfl⟩
    dsimp only at hwb hno ⊢
    have hq64 := (HG.out.p64 _ (List.getElem_mem hj)).1
    obtain ⟨q, hq⟩ : ∃ q, q = d.pend[j]'hj := ⟨_, rfl⟩
    rw [← hq] at hwb hq64 ⊢
    obtain ⟨qa, qd⟩ := q
    have c1 : Y.cell? ⟨wb, 0, none⟩ = some (.int .i64 (qa : Int)) := cell_of_row _ _ 0 _ _ (0, 0) hwb
    have c2 : Y.cell? ⟨W.heap.size, 0, none⟩ = some (.int .i64 (at' : Int)) := cell_of_row _ _ 0 _ _ (0, 0) hR.place
    have hm64 : (qd.map u8c).length = 64 := by rw [List.length_map]; exact hq64
    have his : (Try.prog.info? 63).map (·.size) = some (qd.map u8c).length := by rw [hm64]; kernel_rfl
    have his' : (Try.prog.info? 63).map (·.size) = some (qd.map u8c).toArray.size := by rw [List.size_toArray]; exact his
    have hone : ∀ v ∈ qd.map u8c, v.oneCell' = true := fun v hv => by obtain ⟨c, _, rfl⟩ := List.mem_map.1 hv; rfl
    have hra : Y.rangeAt wb 1 (qd.map u8c) := fun i v hv => (cell_of_row _ _ (1 + i) _ _ (0, 0) hwb).trans (by rw [Nat.add_comm]; simpa [wcells] using hv)
    have hfs : (d.kept[at'].map u8c).toArray.size = (qd.map u8c).toArray.size := by rw [List.size_toArray, List.size_toArray, hm64, List.length_map]; exact HK.out
    have HQ := Lib.hid (⟨his, his', hone, hra, hfs, hR.found⟩ : (Try.prog.info? 63).map (·.size) = some (qd.map u8c).length ∧ (Try.prog.info? 63).map (·.size) = some (qd.map u8c).toArray.size ∧ (∀ v ∈ qd.map u8c, v.oneCell' = true) ∧ Y.rangeAt wb 1 (qd.map u8c) ∧ (d.kept[at'].map u8c).toArray.size = (qd.map u8c).toArray.size ∧ Y.heap[fb]? = some (.cells (d.kept[at'].map u8c).toArray 63 (0, 0)))
    have HR := Lib.hid hR
    have HNO := Lib.hid hno
    have HEQ := Lib.hid hq
    clear hwb hq64 hm64 his his' hone hra hfs hR hno hq
    by_cases he : qa = at'
    · have d1 : ((qa : Int) == (at' : Int)) = true := by rw [beq_iff_eq]; omega
      gi_wp2_with (first
        | (with_reducible refine wpListIn_load_mid rfl 63 _ rfl wb 1 rfl (qd.map u8c) _ HQ.out.2.2.2.1 Try.underlying63 rfl HQ.out.1 ?_)
        | (with_reducible refine wpListIn_store_row rfl 63 _ _ rfl fb (qd.map u8c).toArray rfl rfl 63 _ HQ.out.2.2.2.2.2 HQ.out.2.1 HQ.out.2.2.2.2.1 (all_oneCell_toArray HQ.out.2.2.1) ?_))
      subst he
      have hF := HR.out.find hx0 (by omega) (by omega) hr1 hk1 HP.out qd
      refine ⟨keeps_row HQ.out.2.2.2.2.2 _ _, rfl, ?_, ?_, HNO.out⟩
      · dsimp only
        rw [← HEQ.out]
        exact hF
      · dsimp only
        rw [← HEQ.out]
    · have d1 : ((qa : Int) == (at' : Int)) = false := by rw [beq_eq_false_iff_ne]; omega
      gi_wp2
      refine ⟨KeepsFrom.refl _ _, HR.out, fun i hi h1 => ?_⟩
      by_cases h2 : i = j
      · subst h2
        rw [← HEQ.out]; exact he
      · exact HNO.out i hi (by dsimp only at h1 ⊢; omega)
  case seq =>
    intro l K Jx W5 hKB hK hgr hY
    have hI5 : RdI B W r kb pv d fb W.heap.size bb at' d.kept[at'] W5 := HI.out.own hgr (fun q e => by cases e)
    refine (backward1_in 8 l r bb d.pend hn (fun p hp => (HG.out.p64 p hp).1) pp c (fun i Y => (RdI B W r kb pv d fb W.heap.size bb at' d.kept[at'] Y ∧ ∀ j (hj : j < d.pend.length), i ≤ j → d.pend[j].1 ≠ at') ∧ K Y) Jx ?_ ?_ ?_ W5 ⟨⟨hI5, fun j hj h => by omega⟩, hK⟩).mono ?_
    · rintro i Y ⟨⟨hR, _⟩, _⟩
      refine ⟨cell_of_row _ _ 0 _ _ (0, 0) hR.box, ?_⟩
      have := hR.disk.c1
      rwa [HV.out] at this
    · rintro i Y ⟨⟨hR, _⟩, _⟩ j hj
      obtain ⟨g, rfl⟩ := HFM.out (by omega)
      refine ⟨g, rfl, fun k v hkv => ?_⟩
      have ho := hR.disk.pend
      rw [HV.out] at ho
      exact owned_cell ho (j * 65 + k) v (pcells_at d.pend j hj (fun p hp => (HG.out.p64 p hp).1) k v hkv)
    · rintro j Y hj ⟨hR, hKY⟩
      obtain ⟨fn, tmps, assign, body, hy, hRn⟩ := hY ⟨j, hj⟩ Y hR hKY
      refine ⟨fn, tmps, assign, body, hy, hRn.mono ?_⟩
      rintro e Y' (⟨rfl, h1, h2⟩ | ⟨rfl, h1⟩)
      · exact .inl ⟨rfl, h1, h2⟩
      · exact .inr ⟨rfl, h1⟩
    · rintro e Y ⟨hv, (⟨h1, h2⟩ | h1)⟩
      · exact ⟨hv, .inl ⟨h1, h2⟩⟩
      · exact ⟨hv, .inr h1⟩
  case done =>
    rintro D Y hD ⟨hR, hno⟩ hd
    have hcv := conv_sec hR.found HK.out
    have hL : lastOf d.kept[at'] d.pend at' = d.kept[at'] := by
      rw [← lastOf_take _ _ at' 0 hno]; rfl
    have HL := Lib.hid hL
    have HD := Lib.hid hd
    have HR := Lib.hid hR
    have HNO := Lib.hid hno
    clear hL hd hR hno
    go_wp2_with fail
    unfold Exit.noGoto
    dsimp only
    refine ⟨by simp, .inl ⟨_, _, rfl, run_takeDeferred HD.out, ?_⟩⟩
    refine ⟨_, by simp [results, Try.results12, go_sem]; rfl, ?_, ?_⟩
    · rw [HL.out]
    · exact (HR.out.put (Nat.le_trans hw3 hD) HD.out _).below
  case stop =>
    rintro D co ⟨j, hj⟩ Y hD ⟨rfl, hR, he, hno⟩ hd
    dsimp only at hR he hno
    have hcv := conv_sec hR.found (HG.out.p64 _ (List.getElem_mem hj)).1
    have hL : lastOf d.kept[at'] d.pend at' = d.pend[j].2 := by
      rw [← lastOf_take _ _ at' (j + 1) hno, List.take_succ_eq_append_getElem hj, lastOf_snoc, if_pos he]
    have HL := Lib.hid hL
    have HD := Lib.hid hd
    have HR := Lib.hid hR
    have HNO := Lib.hid hno
    clear hL hd hR hno
    go_wp2_with fail
    unfold Exit.noGoto
    dsimp only
    refine ⟨by simp, .inl ⟨_, _, rfl, run_takeDeferred HD.out, ?_⟩⟩
    refine ⟨_, by simp [results, Try.results12, go_sem]; rfl, ?_, ?_⟩
    · rw [HL.out]
    · exact (HR.out.put (Nat.le_trans hw3 hD) HD.out _).below
end
end Go.Proofs.Ytnoegbogalfdgaa

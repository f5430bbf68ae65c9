/- Write of a disk. -/
import Derived.Lib.BufferWrite
import Derived.Deep.WholeRow
import Derived.Great.BuildSlice
import Derived.Lib.Strings
import Derived.Deep.RegionHeld3
import Derived.Test.YtnoegbogalfdgaaDiskSmall
set_option linter.unusedSimpArgs false
set_option linter.unusedVariables false
namespace Go.Proofs.Ytnoegbogalfdgaa
open Go Go.RowKit Wire

section
variable {B r kb : Nat} {W : World} {pv : Value} {d : DS}

set_option maxHeartbeats 1000000 in
theorem write_bad (h : DAt B W r kb pv d) (at' : Int) (s : ByteArray) (hb : at' < 0 ∨ (d.kept.length : Int) ≤ at' ∨ (∃ k : Nat, at' = (k : Int) ∧ k < d.kept.length ∧ s.size ≠ 64)) :
    Calls Try.prog 9 #[.pointer (some ⟨r, 0, none⟩), .int .i64 at', .string s] W fun x W' => x = .returned (.int .i64 20) ∧ W = W' := by
  rcases hb with hb | hb | ⟨k, rfl, hk, hs⟩
  · go_enter Try.func9, Try.ntmps9
    go_wp2_with fail
    refine (has_no h at' (.inl hb)).mono ?_
    rintro x W1 ⟨rfl, rfl⟩
    go_wp2_with fail
    go_ret
    exact ⟨rfl, rfl⟩
  · go_enter Try.func9, Try.ntmps9
    go_wp2_with fail
    refine (has_no h at' (.inr hb)).mono ?_
    rintro x W1 ⟨rfl, rfl⟩
    go_wp2_with fail
    go_ret
    exact ⟨rfl, rfl⟩
  · have d1 : ((s.size : Int) != 64) = true := by simp; omega
    go_enter Try.func9, Try.ntmps9
    go_wp2_with fail
    refine (has_yes h k hk).mono ?_
    rintro x W1 ⟨rfl, rfl⟩
    go_wp2_with fail
    go_ret
    exact ⟨rfl, rfl⟩
set_option maxHeartbeats 1000000 in
theorem write_off (h : DAt B W r kb pv d) (hp : d.cut = true) (hl : d.left = 0) (at' : Nat) (ha : at' < d.kept.length) (s : ByteArray) (hs : s.size = 64) :
    Calls Try.prog 9 #[.pointer (some ⟨r, 0, none⟩), .int .i64 (at' : Int), .string s] W fun x W' => x = .returned (.int .i64 22) ∧ W = W' := by
  have d1 : ((s.size : Int) != 64) = false := by rw [hs]; rfl
  clear hs
  have hpo := power_off h hp hl
  clear hp hl
  go_enter Try.func9, Try.ntmps9
  go_wp2_with fail
  refine (has_yes h at' ha).mono ?_
  rintro x W1 ⟨rfl, rfl⟩
  go_wp2_with fail
  refine hpo.mono ?_
  rintro x W1 ⟨rfl, rfl⟩
  go_wp2_with fail
  go_ret
  exact ⟨rfl, rfl⟩

theorem infoWrite : (Try.prog.info? 65).map (fun i => (i.zero, i.size, i.bytes)) = some (some (.agg (#[.int .i64 0] ++ Array.replicate 64 (.int .u8 0))), 65, 72) := by kernel_rfl

theorem zero_write (w : World) : (zeroValue 65).run Try.prog w = .ok (.agg #[.int .i64 0, .int .u8 0, .int .u8 0, .int .u8 0, .int .u8 0, .int .u8 0, .int .u8 0, .int .u8 0, .int .u8 0, .int .u8 0, .int .u8 0, .int .u8 0, .int .u8 0, .int .u8 0, .int .u8 0, .int .u8 0, .int .u8 0, .int .u8 0, .int .u8 0, .int .u8 0, .int .u8 0, .int .u8 0, .int .u8 0, .int .u8 0, .int .u8 0, .int .u8 0, .int .u8 0, .int .u8 0, .int .u8 0, .int .u8 0, .int .u8 0, .int .u8 0, .int .u8 0, .int .u8 0, .int .u8 0, .int .u8 0, .int .u8 0, .int .u8 0, .int .u8 0, .int .u8 0, .int .u8 0, .int .u8 0, .int .u8 0, .int .u8 0, .int .u8 0, .int .u8 0, .int .u8 0, .int .u8 0, .int .u8 0, .int .u8 0, .int .u8 0, .int .u8 0, .int .u8 0, .int .u8 0, .int .u8 0, .int .u8 0, .int .u8 0, .int .u8 0, .int .u8 0, .int .u8 0, .int .u8 0, .int .u8 0, .int .u8 0, .int .u8 0, .int .u8 0]) w := by kernel_rfl

/-- the pending writes grown, and laid into the disk -/
theorem DAt.setPend {B r kb : Nat} {W W' : World} {pv pv' : Value} {d d' : DS} (h : DAt B W r kb pv d) (hg : W.grownBy W' pv.ownBlock) (hown : W'.ownsRow B 65 65 pv' d'.pend.length (pcells d'.pend)) (hpr : pv'.ownBlock ≠ some r)
    (hk : d'.kept = d.kept) (hc : d'.cut = d.cut) (hl : d'.left = d.left) (hgd : d'.good) : DAt B (W'.setCell ⟨r, 1, none⟩ pv') r kb pv' d' := by
  have hbx : W'.heap[r]? = _ := (hg.block r h.rlt (fun e => h.pr e.symm)).trans h.box
  have h1 := heap_setCell_same W' r 1 _ _ pv' hbx
  refine ⟨by rw [hk, hc, hl]; exact h1, ?_, ⟨hown.1, ?_⟩, h.lor, h.lok, hgd⟩
  · rw [Below.heap_setCell W' ⟨r, 1, none⟩ pv' kb h.rk.symm, hk]
    exact (hg.block kb h.klt (fun e => h.pk e.symm)).trans h.kept
  · rcases hown.2 with h0 | ⟨g, cap, cur, hv, hb', hg', hr⟩
    · exact .inl h0
    · refine .inr ⟨g, cap, cur, hv, hb', ?_, hr⟩
      rw [Below.heap_setCell W' ⟨r, 1, none⟩ pv' g (fun e => hpr (by rw [hv, e]; rfl))]; exact hg'

/-- a slice literal of one element of many cells -/
theorem fill_one {C : Array Value} {ie : TypeInfo} {z : Value} (hs : ie.size = C.size) (hc : 0 < C.size) :
    Instr.fill (fun i => some (i * ie.size, ie.size)) ((Array.range (1 * ie.size)).map (z.cells[· % z.cells.size]!)) [(0, .agg C)] = some C := by
  have := Great.fill_whole (s := C.size) hc [.agg C] ((Array.range (1 * ie.size)).map (z.cells[· % z.cells.size]!)) (fun v hv => by rw [List.mem_singleton.1 hv]; rfl) (by simp [hs])
  rw [hs] at this ⊢
  simpa [Value.cells] using this

theorem wp_buildOne {o : Oper} {a : Act} {w : World} {K : Act → World → Prop} {Q : Exit → Act → World → Prop} (t e : TypeId) (x : Operand) (ho : o.op = .buildSlice t 1 #[(0, x)]) (C : Array Value) (hx : a.eval x = .agg C) {ie : TypeInfo} {z : Value}
    (hu : Try.prog.underlying t = some (.slice e)) (hie : Try.prog.info? e = some ie) (hz : ie.zero = some z) (hs : ie.size = C.size) (hc : 0 < C.size) (hc2 : C.size ≤ 16777216)
    (h : K (a.put o.dst (.slice (some ⟨w.heap.size, 0, none⟩) 1 1)) (w.alloc (.cells C e))) : o.wp Try.prog a w K Q :=
  wp_buildSlice t e 1 _ ho C ie z hu hie hz (by rw [hs]; omega) (by rw [hs]; omega) (by have := fill_one (z := z) hs hc; simpa [hx] using this) h

set_option maxRecDepth 100000 in
set_option maxHeartbeats 4000000 in
theorem write_ok (h : DAt B W r kb pv d) (hp : d.cut = false ∨ 0 < d.left) (hz : B ≤ W.heap.size) (at' : Nat) (ha : at' < d.kept.length) (s : ByteArray) (hs : s.size = 64) (hn : d.pend.length ≤ 100000) :
    Calls Try.prog 9 #[.pointer (some ⟨r, 0, none⟩), .int .i64 (at' : Int), .string s] W fun x W' => x = .returned (.int .i64 0) ∧ ∃ pv', Did B W W' r kb pv pv' ⟨d.kept, d.pend ++ [(at', s.data.toList)], d.cut, d.spend.left⟩ := by
  have d1 : ((s.size : Int) != 64) = false := by rw [hs]; rfl
  have HSZ := Lib.hid hs
  clear hs
  have hpo := power_on h hp hz
  clear hp
  go_enter Try.func9, Try.ntmps9
  go_wp2_with fail
  refine (has_yes h at' ha).mono ?_
  rintro x W1 ⟨rfl, rfl⟩
  go_wp2_with fail
  refine hpo.mono ?_
  rintro x W1 ⟨rfl, hD⟩
  clear hpo
  obtain ⟨Z, hZl, hzv⟩ : ∃ Z : Array Value, Z.toList = .int .i64 0 :: List.replicate 64 (.int .u8 0) ∧ ∀ w : World, (zeroValue 65).run Try.prog w = .ok (.agg Z) w := ⟨_, rfl, zero_write⟩
  have hZs : Z.size = 65 := by rw [← Array.length_toList, hZl]; rfl
  have hZ0 : ¬ Z = #[] := fun e => by rw [e] at hZs; simp at hZs
  obtain ⟨Y, hY⟩ : ∃ Y, Y = Z.setIfInBounds 0 (.int .i64 (at' : Int)) := ⟨_, rfl⟩
  have hYl : Y.toList = .int .i64 (at' : Int) :: List.replicate 64 (.int .u8 0) := by rw [hY, Array.toList_setIfInBounds, hZl]; rfl
  have hYs : Y.size = 65 := by rw [← Array.length_toList, hYl]; rfl
  have hinf : (Try.prog.info? 65).map (·.size) = some Y.size := by rw [hYs]; kernel_rfl
  have hone : Y.all (·.oneCell') = true := by
    rw [Array.all_eq_true_iff_forall_mem]
    intro v hv
    have : v ∈ Y.toList := by simpa using hv
    rw [hYl] at this
    rcases List.mem_cons.1 this with rfl | h
    · rfl
    · rw [List.eq_of_mem_replicate h]; rfl
  have hY' : Z.setIfInBounds 0 (.int .i64 (at' : Int)) = Y := hY.symm
  have hWb := World.alloc_heap_new W1 (.cells Y 65)
  have hcp := fun ty => Lib.run_copy_row_string (P := Try.prog) (W1.alloc (.cells Y 65)) 60 9 ty 5 W1.heap.size 1 64 64 s _ _ Try.underlying60 (by kernel_rfl) hWb (by rw [HSZ.out]; exact Nat.le_refl _) (by rw [HSZ.out, hYs]; decide)
  have HY := Lib.hid (⟨hZl, hZs, hYl, hYs, hinf, hone⟩ : Z.toList = .int .i64 0 :: List.replicate 64 (.int .u8 0) ∧ Z.size = 65 ∧ Y.toList = .int .i64 (at' : Int) :: List.replicate 64 (.int .u8 0) ∧ Y.size = 65 ∧ (Try.prog.info? 65).map (·.size) = some Y.size ∧ Y.all (·.oneCell') = true)
  clear hWb hZl hZs hY hYl hYs hinf hone
  go_wp2_with (refine wpList_store_row rfl 65 _ _ rfl W1.heap.size Y rfl rfl 65 Z (World.alloc_heap_new W1 _) HY.out.2.2.2.2.1 (by rw [HY.out.2.1, HY.out.2.2.2.1]) HY.out.2.2.2.2.2 ?_; rw [World.setRow_alloc_new])
  rw [World.setRow_alloc_new]
  obtain ⟨C, hC⟩ : ∃ C : Array Value, C = (List.take 1 Y.toList ++ (Lib.byteCells s.data.toList ++ List.drop (1 + s.size) Y.toList)).toArray := ⟨_, rfl⟩
  rw [← hC]
  have hsl : s.data.toList.length = 64 := by have := HSZ.out; rw [← this]; simp
  have hCl : C.toList = wcells (at', s.data.toList) := by
    rw [hC, HY.out.2.2.1, HSZ.out]
    simp [wcells, Lib.byteCells]
    intro a _; rfl
  have HC := Lib.hid hCl
  have hCs : C.toList.length = 65 := by rw [hCl]; simp [wcells, hsl]
  clear hC hCl HY hY' hcp hZ0 hzv
  have hD1 := hD.disk.alloc (.cells C 65)
  have hb1 : Below B W (W1.alloc (.cells C 65)) := hD.below.alloc (Nat.le_trans hz hD.below.size) _
  have hr0 : (W1.alloc (.cells C 65)).rangeAt W1.heap.size 0 C.toList := fun j v hv => by
    rw [Nat.zero_add]
    exact cell_of_row _ _ j C _ (0, 0) (World.alloc_heap_new W1 _) ▸ (by simpa using hv)
  have hbl : W1.heap.size < (W1.alloc (.cells C 65)).heap.size := by simp
  have hold : ∀ k, k < W1.heap.size → (W1.alloc (.cells C 65)).heap[k]? = W1.heap[k]? := fun k hk => Go.heap_alloc_old W1 _ hk
  generalize W1.alloc (.cells C 65) = W2 at hD1 hb1 hr0 hbl hold ⊢
  have hbp : pv.ownBlock ≠ some W1.heap.size := fun e => by have := hD.disk.plt e; omega
  have hbr : W1.heap.size ≠ r := fun e => by have := hD.disk.rlt; omega
  have hz2 : W1.heap.size ≤ W2.heap.size := by omega
  have ho1 : ∀ k, k < W1.heap.size → W2.heap[k]? = W1.heap[k]? := hold
  have HOL := Lib.hid ho1
  clear ho1 hold
  generalize hbe : W1.heap.size = b at hr0 hbl hbp hbr hz2 ⊢
  have HBE := Lib.hid hbe
  clear hbe
  have hr1 : W2.drew.rangeAt b 0 C.toList := hr0
  have hi65 : (Try.prog.info? 65).map (·.size) = some C.toList.length := by rw [hCs]; kernel_rfl
  refine wp_region_held_drew (S := fun W' => W'.rangeAt b 0 C.toList) (by kernel_rfl) hr1 (fun hHeld => ?_)
  clear hr0 hr1
  refine wpAnyH_take (i := 0) (v := ?v0) rfl (by kernel_rfl) (by kernel_rfl) (by kernel_rfl) (fun _ _ _ h => h) (Or.inl ⟨by rfl, ?y0⟩) hHeld ?r0
  case y0 => (intro w hSw; clear hSw; go_simp; try with_reducible rfl)
  try simp only [Act.put, List.setIfInBounds_toArray, List.set_cons_zero, List.set_cons_succ]
  refine wpAnyH_take (i := 1) (v := ?v1) rfl (by kernel_rfl) (by kernel_rfl) (by kernel_rfl) (fun _ _ _ h => h) (Or.inl ⟨by rfl, ?y1⟩) hHeld ?r1
  case y1 => (intro w hSw; clear hSw; go_simp; try with_reducible rfl)
  try simp only [Act.put, List.setIfInBounds_toArray, List.set_cons_zero, List.set_cons_succ]
  refine wpAnyH_take (i := 2) (v := ?v2) rfl (by kernel_rfl) (by kernel_rfl) (by kernel_rfl) (fun _ _ _ h => h) (Or.inl ⟨by rfl, ?y2⟩) hHeld ?r2
  case y2 => (intro w hSw; clear hSw; go_simp; try with_reducible rfl)
  try simp only [Act.put, List.setIfInBounds_toArray, List.set_cons_zero, List.set_cons_succ]
  refine wpAnyH_take (i := 3) (v := ?v3) rfl (by kernel_rfl) (by kernel_rfl) (by kernel_rfl) (fun _ _ _ h => h) (Or.inl ⟨by rfl, ?y3⟩) hHeld ?r3
  case y3 => (intro w hSw; clear hSw; go_simp; try with_reducible rfl)
  try simp only [Act.put, List.setIfInBounds_toArray, List.set_cons_zero, List.set_cons_succ]
  refine wpAnyH_take (i := 5) (v := _) rfl (by kernel_rfl) (by kernel_rfl) (by kernel_rfl) (fun _ _ _ h => h) (yieldsIf_load_mid (by rfl) 65 _ rfl b 0 rfl C.toList _ (fun w h => h) Try.underlying65 rfl hi65) hHeld ?r5
  try simp only [Act.put, List.setIfInBounds_toArray, List.set_cons_zero, List.set_cons_succ]
  have hp1 := hD1.c1
  refine wpAnyH_ready (rs := [4, 6]) (by kernel_rfl) (by simp) ?_
  have hp2 : W2.drew.cell? ⟨r, 1, none⟩ = some pv := hp1
  obtain ⟨iw, hiw, hw0, hw1, hw2⟩ := info_parts infoWrite
  have hCz : C.size = 65 := by rw [← Array.length_toList]; exact hCs
  have hspl : d.spend.pend.length = d.pend.length := by unfold DS.spend; split <;> rfl
  have honeC : ∀ u ∈ C.toList, u.oneCell' = true := fun u hu => by
    rw [HC.out] at hu
    rcases List.mem_cons.1 hu with rfl | h
    · rfl
    · obtain ⟨c, _, rfl⟩ := List.mem_map.1 h; rfl
  have hp3 : (W2.alloc (.cells C 65)).cell? ⟨r, 1, none⟩ = some pv := (hD1.alloc _).c1
  refine AllReadyH.cons (i := 4) rfl (fun K hK => ?_) (AllReadyH.cons (i := 6) rfl (fun K hK => ?_) AllReadyH.nil)
  · go_simp
    refine hK.out _ _ hHeld (fun _ => ?_)
    clear hK K
    try simp only [Act.put, List.setIfInBounds_toArray, List.set_cons_zero, List.set_cons_succ]
    refine wpAnyH_ready (rs := [6]) (by kernel_rfl) (by simp) ?_
    refine AllReadyH.cons (i := 6) rfl (fun K hK => ?_) AllReadyH.nil
    rw [if_pos (by rfl)]
    refine wp_buildOne 54 65 _ rfl C rfl Try.underlying54 hiw hw0 (by rw [hw1, hCz]) (by omega) (by omega) ?_
    refine hK.out _ _ (World.rangeAt_alloc hHeld _) (fun hHeld => ?_)
    clear hK K
    try simp only [Act.put, List.setIfInBounds_toArray, List.set_cons_zero, List.set_cons_succ]
    have hD2 := (hD1.alloc (.cells C 65)).drew
    have hX : (W2.alloc (.cells C 65)).drew.heap[W2.heap.size]? = some (.cells C 65 (0, 0)) := World.alloc_heap_new W2 _
    have hb2 : Below B W (W2.alloc (.cells C 65)).drew := (hb1.alloc (Nat.le_trans hz (Nat.le_trans hD.below.size (by have := HBE.out; omega))) _).drew
    have hXs : (W2.alloc (.cells C 65)).drew.heap.size = W2.heap.size + 1 := by show (W2.alloc _).heap.size = _; simp
    have hXo : ∀ k, k < W2.heap.size → (W2.alloc (.cells C 65)).drew.heap[k]? = W2.heap[k]? := fun k hk => Go.heap_alloc_old W2 _ hk
    change wpAnyH _ _ _ _ _ _ _ _ (W2.alloc (.cells C 65)).drew
    have hHeld' : (W2.alloc (.cells C 65)).drew.rangeAt b 0 C.toList := hHeld
    clear hHeld hp1 hp2 hp3
    generalize (W2.alloc (.cells C 65)).drew = X at hD2 hX hb2 hXs hXo hHeld' ⊢
    refine wpAnyH_ready (rs := [7]) (by kernel_rfl) (by simp) ?_
    refine AllReadyH.cons (i := 7) rfl (fun K hK => ?_) AllReadyH.nil
    refine step_append_lies _ (by rfl) _ _ 54 (by rfl) B 65 iw _ 65 72 Try.underlying54 hiw hw0 hw1 hw2 rfl (by decide) pv d.spend.pend.length (pcells d.spend.pend) (by rfl) hD2.pend ⟨W2.heap.size, 0, none⟩ 1 1 C.toList (by rfl) (by rw [hCs]) (fun j u hu => by rw [Addr.add_mid, Nat.zero_add]; exact (cell_of_row _ _ j C _ (0, 0) hX).trans (by simpa using hu)) honeC (by omega) (by rw [hspl]; unfold maxLen; omega) (by rw [hspl]; omega) (by rw [hXs]; have := hb1.size; omega) X.heap.size rfl ?_
    intro g cap W4 hown hgrow hat hlt
    have hS4 : W4.rangeAt b 0 C.toList := fun j v hv => by
      have h1 := hHeld' j v hv
      rw [← h1]
      exact World.cell?_of_block (hgrow.block b (by rw [hXs]; omega) (fun e => hbp e.symm))
    refine hK.out _ _ hS4 (fun hHeld => ?_)
    clear hK K
    try simp only [Act.put, List.setIfInBounds_toArray, List.set_cons_zero, List.set_cons_succ]
    refine wpAnyH_take (i := 8) (v := ?v8) rfl (by kernel_rfl) (by kernel_rfl) (by kernel_rfl) (fun _ _ _ h => h) (Or.inl ⟨by rfl, ?y8⟩) (by assumption) ?r8
    case y8 => (intro w hSw; clear hSw; go_simp; try with_reducible rfl)
    try simp only [Act.put, List.setIfInBounds_toArray, List.set_cons_zero, List.set_cons_succ]
    refine wpAnyH_take (i := 9) (v := ?v9) rfl (by kernel_rfl) (by kernel_rfl) (by kernel_rfl) (fun _ _ _ h => h) (Or.inl ⟨by rfl, ?y9⟩) (by assumption) ?r9
    case y9 => (intro w hSw; clear hSw; go_simp; try with_reducible rfl)
    try simp only [Act.put, List.setIfInBounds_toArray, List.set_cons_zero, List.set_cons_succ]
    have hc4 : W4.cell? ⟨r, 1, none⟩ = some pv := (World.cell?_of_block (hgrow.block r hD2.rlt (fun e => hD2.pr e.symm))).trans hD2.c1
    have hf4 : W4.frozen? ⟨r, 1, none⟩ = false := (World.frozen?_of_block (hgrow.block r hD2.rlt (fun e => hD2.pr e.symm))).trans (hD2.fz 1)
    refine wpAnyH_ready (rs := [10]) (by kernel_rfl) (by simp) ?_
    refine AllReadyH.cons (i := 10) rfl (fun K hK => ?_) AllReadyH.nil
    go_simp
    refine hK.out _ _ (fun j v hv => by rw [World.cell?_of_block (Below.heap_setCell W4 ⟨r, 1, none⟩ _ b hbr)]; exact hHeld j v hv) (fun hHeld => ?_)
    clear hK K
    try simp only [Act.put, List.setIfInBounds_toArray, List.set_cons_zero, List.set_cons_succ]
    refine wpAnyH_done (by kernel_rfl) ?_ _
    go_wp2_with fail
    go_ret
    have hgr : g ≠ r := fun e => by
      rcases hat with h4 | h4
      · exact hD2.pr (by rw [h4, e])
      · have := hD2.rlt; omega
    have hk' : d.spend.kept = d.kept := by unfold DS.spend; split <;> rfl
    have hp' : d.spend.pend = d.pend := by unfold DS.spend; split <;> rfl
    have hc' : d.spend.cut = d.cut := by unfold DS.spend; split <;> rfl
    have hcl : pcells (d.pend ++ [(at', s.data.toList)]) = pcells d.spend.pend ++ C.toList := by rw [hp', HC.out]; simp [pcells]
    have hll : (d.pend ++ [(at', s.data.toList)]).length = d.spend.pend.length + 1 := by rw [hp']; simp
    refine ⟨rfl, _, hD2.setPend (d' := ⟨d.kept, d.pend ++ [(at', s.data.toList)], d.cut, d.spend.left⟩) hgrow (by show W4.ownsRow B 65 65 _ (d.pend ++ [(at', s.data.toList)]).length (pcells (d.pend ++ [(at', s.data.toList)])); rw [hll, hcl]; rw [hspl] at hown ⊢; exact hown) (by simpa [Value.ownBlock] using hgr) hk'.symm hc'.symm rfl ?_, ?_, ?_, fun q hq => ?_⟩
    · refine ⟨h.good.k64, fun p hp => ?_, h.good.few, (DS.spend_good h.good).left⟩
      rcases List.mem_append.1 hp with h5 | h5
      · exact h.good.p64 p h5
      · rw [List.mem_singleton.1 h5]; exact ⟨hsl, ha⟩
    · exact (hb2.grown hgrow (by have := hb2.size; omega) (fun q hq => (hD2.pend.lt q hq).1)).setCell (p := ⟨r, 1, none⟩) h.lor _
    · refine ⟨by have h6 := hgrow.size; have h7 := hb2.size; show W.heap.size ≤ (W4.setCell _ _).heap.size; simp [World.setCell]; omega, fun k hk q1 q2 q3 => ?_⟩
      have hk1 : k < W1.heap.size := Nat.lt_of_lt_of_le hk hD.only.size
      have hk2 : k < W2.heap.size := by have := HBE.out; omega
      exact (Below.heap_setCell W4 ⟨r, 1, none⟩ _ k q1).trans ((hgrow.block k (by omega) (fun e => q3 e.symm)).trans ((hXo k hk2).trans ((HOL.out k hk1).trans (hD.only.block k hk q1 q2 q3))))
    · have hqg : g = q := by simpa [Value.ownBlock] using hq
      rcases hat with h4 | h4
      · exact .inl (by rw [h4, hqg])
      · exact .inr (by have := hb2.size; omega)
  · rw [if_pos (by rfl)]
    refine wp_buildOne 54 65 _ rfl C rfl Try.underlying54 hiw hw0 (by rw [hw1, hCz]) (by omega) (by omega) ?_
    refine hK.out _ _ (World.rangeAt_alloc hHeld _) (fun hHeld => ?_)
    clear hK K
    try simp only [Act.put, List.setIfInBounds_toArray, List.set_cons_zero, List.set_cons_succ]
    refine wpAnyH_ready (rs := [4]) (by kernel_rfl) (by simp) ?_
    refine AllReadyH.cons (i := 4) rfl (fun K hK => ?_) AllReadyH.nil
    go_simp
    refine hK.out _ _ hHeld (fun hHeld => ?_)
    clear hK K
    try simp only [Act.put, List.setIfInBounds_toArray, List.set_cons_zero, List.set_cons_succ]
    have hD2 := (hD1.alloc (.cells C 65)).drew
    have hX : (W2.alloc (.cells C 65)).drew.heap[W2.heap.size]? = some (.cells C 65 (0, 0)) := World.alloc_heap_new W2 _
    have hb2 : Below B W (W2.alloc (.cells C 65)).drew := (hb1.alloc (Nat.le_trans hz (Nat.le_trans hD.below.size (by have := HBE.out; omega))) _).drew
    have hXs : (W2.alloc (.cells C 65)).drew.heap.size = W2.heap.size + 1 := by show (W2.alloc _).heap.size = _; simp
    have hXo : ∀ k, k < W2.heap.size → (W2.alloc (.cells C 65)).drew.heap[k]? = W2.heap[k]? := fun k hk => Go.heap_alloc_old W2 _ hk
    change wpAnyH _ _ _ _ _ _ _ _ (W2.alloc (.cells C 65)).drew
    have hHeld' : (W2.alloc (.cells C 65)).drew.rangeAt b 0 C.toList := hHeld
    clear hHeld hp1 hp2 hp3
    generalize (W2.alloc (.cells C 65)).drew = X at hD2 hX hb2 hXs hXo hHeld' ⊢
    refine wpAnyH_ready (rs := [7]) (by kernel_rfl) (by simp) ?_
    refine AllReadyH.cons (i := 7) rfl (fun K hK => ?_) AllReadyH.nil
    refine step_append_lies _ (by rfl) _ _ 54 (by rfl) B 65 iw _ 65 72 Try.underlying54 hiw hw0 hw1 hw2 rfl (by decide) pv d.spend.pend.length (pcells d.spend.pend) (by rfl) hD2.pend ⟨W2.heap.size, 0, none⟩ 1 1 C.toList (by rfl) (by rw [hCs]) (fun j u hu => by rw [Addr.add_mid, Nat.zero_add]; exact (cell_of_row _ _ j C _ (0, 0) hX).trans (by simpa using hu)) honeC (by omega) (by rw [hspl]; unfold maxLen; omega) (by rw [hspl]; omega) (by rw [hXs]; have := hb1.size; omega) X.heap.size rfl ?_
    intro g cap W4 hown hgrow hat hlt
    have hS4 : W4.rangeAt b 0 C.toList := fun j v hv => by
      have h1 := hHeld' j v hv
      rw [← h1]
      exact World.cell?_of_block (hgrow.block b (by rw [hXs]; omega) (fun e => hbp e.symm))
    refine hK.out _ _ hS4 (fun hHeld => ?_)
    clear hK K
    try simp only [Act.put, List.setIfInBounds_toArray, List.set_cons_zero, List.set_cons_succ]
    refine wpAnyH_take (i := 8) (v := ?v18) rfl (by kernel_rfl) (by kernel_rfl) (by kernel_rfl) (fun _ _ _ h => h) (Or.inl ⟨by rfl, ?y18⟩) (by assumption) ?r18
    case y18 => (intro w hSw; clear hSw; go_simp; try with_reducible rfl)
    try simp only [Act.put, List.setIfInBounds_toArray, List.set_cons_zero, List.set_cons_succ]
    refine wpAnyH_take (i := 9) (v := ?v19) rfl (by kernel_rfl) (by kernel_rfl) (by kernel_rfl) (fun _ _ _ h => h) (Or.inl ⟨by rfl, ?y19⟩) (by assumption) ?r19
    case y19 => (intro w hSw; clear hSw; go_simp; try with_reducible rfl)
    try simp only [Act.put, List.setIfInBounds_toArray, List.set_cons_zero, List.set_cons_succ]
    have hc4 : W4.cell? ⟨r, 1, none⟩ = some pv := (World.cell?_of_block (hgrow.block r hD2.rlt (fun e => hD2.pr e.symm))).trans hD2.c1
    have hf4 : W4.frozen? ⟨r, 1, none⟩ = false := (World.frozen?_of_block (hgrow.block r hD2.rlt (fun e => hD2.pr e.symm))).trans (hD2.fz 1)
    refine wpAnyH_ready (rs := [10]) (by kernel_rfl) (by simp) ?_
    refine AllReadyH.cons (i := 10) rfl (fun K hK => ?_) AllReadyH.nil
    go_simp
    refine hK.out _ _ (fun j v hv => by rw [World.cell?_of_block (Below.heap_setCell W4 ⟨r, 1, none⟩ _ b hbr)]; exact hHeld j v hv) (fun hHeld => ?_)
    clear hK K
    try simp only [Act.put, List.setIfInBounds_toArray, List.set_cons_zero, List.set_cons_succ]
    refine wpAnyH_done (by kernel_rfl) ?_ _
    go_wp2_with fail
    go_ret
    have hgr : g ≠ r := fun e => by
      rcases hat with h4 | h4
      · exact hD2.pr (by rw [h4, e])
      · have := hD2.rlt; omega
    have hk' : d.spend.kept = d.kept := by unfold DS.spend; split <;> rfl
    have hp' : d.spend.pend = d.pend := by unfold DS.spend; split <;> rfl
    have hc' : d.spend.cut = d.cut := by unfold DS.spend; split <;> rfl
    have hcl : pcells (d.pend ++ [(at', s.data.toList)]) = pcells d.spend.pend ++ C.toList := by rw [hp', HC.out]; simp [pcells]
    have hll : (d.pend ++ [(at', s.data.toList)]).length = d.spend.pend.length + 1 := by rw [hp']; simp
    refine ⟨rfl, _, hD2.setPend (d' := ⟨d.kept, d.pend ++ [(at', s.data.toList)], d.cut, d.spend.left⟩) hgrow (by show W4.ownsRow B 65 65 _ (d.pend ++ [(at', s.data.toList)]).length (pcells (d.pend ++ [(at', s.data.toList)])); rw [hll, hcl]; rw [hspl] at hown ⊢; exact hown) (by simpa [Value.ownBlock] using hgr) hk'.symm hc'.symm rfl ?_, ?_, ?_, fun q hq => ?_⟩
    · refine ⟨h.good.k64, fun p hp => ?_, h.good.few, (DS.spend_good h.good).left⟩
      rcases List.mem_append.1 hp with h5 | h5
      · exact h.good.p64 p h5
      · rw [List.mem_singleton.1 h5]; exact ⟨hsl, ha⟩
    · exact (hb2.grown hgrow (by have := hb2.size; omega) (fun q hq => (hD2.pend.lt q hq).1)).setCell (p := ⟨r, 1, none⟩) h.lor _
    · refine ⟨by have h6 := hgrow.size; have h7 := hb2.size; show W.heap.size ≤ (W4.setCell _ _).heap.size; simp [World.setCell]; omega, fun k hk q1 q2 q3 => ?_⟩
      have hk1 : k < W1.heap.size := Nat.lt_of_lt_of_le hk hD.only.size
      have hk2 : k < W2.heap.size := by have := HBE.out; omega
      exact (Below.heap_setCell W4 ⟨r, 1, none⟩ _ k q1).trans ((hgrow.block k (by omega) (fun e => q3 e.symm)).trans ((hXo k hk2).trans ((HOL.out k hk1).trans (hD.only.block k hk q1 q2 q3))))
    · have hqg : g = q := by simpa [Value.ownBlock] using hq
      rcases hat with h4 | h4
      · exact .inl (by rw [h4, hqg])
      · exact .inr (by have := hb2.size; omega)
end
end Go.Proofs.Ytnoegbogalfdgaa

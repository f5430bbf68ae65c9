/- Crash of a disk, where each write is kept once at most. -/
import Derived.Test.YtnoegbogalfdgaaDiskRot
set_option linter.unusedSimpArgs false
set_option linter.unusedVariables false
namespace Go.Proofs.Ytnoegbogalfdgaa
open Go Go.RowKit Wire

theorem infoBool : (Try.prog.info? 4).map (fun i => (i.zero, i.size, i.bytes)) = some (some (.bool false), 1, 1) := by kernel_rfl
/-- which writes have been met among so many -/
def bools (m : Nat) (ks : List Nat) : List Value := (List.range m).map fun j => .bool (decide (j ∈ ks))
theorem bools_at (m : Nat) (ks : List Nat) (j : Nat) (h : j < m) : (bools m ks)[j]? = some (.bool (decide (j ∈ ks))) := by
  unfold bools; rw [List.getElem?_map, List.getElem?_range h]; rfl
theorem bools_set (m : Nat) (ks : List Nat) (k : Nat) (h : k < m) : (bools m ks).set k (.bool true) = bools m (ks ++ [k]) := by
  apply List.ext_getElem?
  intro j
  by_cases hj : j < m
  · rw [bools_at m _ j hj, List.getElem?_set]
    by_cases e : k = j
    · subst e
      rw [if_pos rfl, if_pos (by simp [bools]; exact h)]; simp
    · rw [if_neg e, bools_at m ks j hj]
      congr 2
      simp [List.mem_append, Ne.symm e]
  · rw [List.getElem?_eq_none (by simp [bools]; omega), List.getElem?_eq_none (by simp [bools]; omega)]
theorem made_bools (m : Nat) : madeCells (Value.bool false).cells (m * 1) = (bools m []).toArray := by
  apply Array.ext
  · simp [madeCells, bools]
  · intro i h1 h2
    simp [madeCells, bools, Value.cells, Nat.mod_one]

/-- the writes kept after so many of the order -/
def chosen (d : DS) (ks : List Nat) (i : Nat) : List (Nat × List UInt8) := (ks.take i).filterMap fun k => d.pend[k]?
theorem chosen_succ (d : DS) (ks : List Nat) (i : Nat) (hi : i < ks.length) (hk : ks[i] < d.pend.length) : chosen d ks (i + 1) = chosen d ks i ++ [d.pend[ks[i]]] := by
  unfold chosen
  rw [List.take_succ_eq_append_getElem hi, List.filterMap_append]
  simp [List.getElem?_eq_getElem hk]
theorem chosen_all (d : DS) (ks : List Nat) : chosen d ks ks.length = ks.filterMap fun k => d.pend[k]? := by
  unfold chosen; rw [List.take_of_length_le (Nat.le_refl _)]

section
variable {B r kb : Nat} {W : World} {pv : Value} {d : DS}

set_option maxRecDepth 100000 in
set_option maxHeartbeats 4000000 in
theorem crash_ok (h : DAt B W r kb pv d) (hz : B ≤ W.heap.size) (hn : d.pend.length ≤ 100000) (kv : Value) (ks : List Nat) (hkl : ks.length ≤ 100000) (hrow : W.ownsRow B 3 1 kv ks.length (ks.map fun k : Nat => Value.int .i64 (k : Int))) (hlt : ∀ k ∈ ks, k < d.pend.length) (hnd : ks.Nodup) :
    Calls Try.prog 18 #[.pointer (some ⟨r, 0, none⟩), kv] W fun x W' => x = .returned (.int .i64 0) ∧ Did B W W' r kb pv (.slice none 0 0) ⟨layW d.kept (ks.filterMap fun k => d.pend[k]?), [], false, 0⟩ := by
  obtain ⟨ib, hib, hb0, hb1, hb2⟩ := info_parts infoBool
  have hmk : ∀ w : World, (Instr.makeSlice 46 (.int .i64 (d.pend.length : Int)) (.int .i64 (d.pend.length : Int))).run Try.prog w = .ok (.slice (some ⟨w.heap.size, 0, none⟩) d.pend.length d.pend.length) (w.alloc (.cells (bools d.pend.length []).toArray 4)) := fun w => by
    have := run_make (P := Try.prog) w 46 4 ib _ Try.underlying46 hib hb0 .i64 .i64 (d.pend.length : Int) (d.pend.length : Int) (by omega) (Int.le_refl _) (by rw [hb2]; omega) (by omega)
    rw [Int.toNat_natCast, hb1, made_bools] at this
    exact this
  have hkform : ∃ kp kc, kv = .slice kp ks.length kc := by
    rcases hrow.2 with ⟨hv, h0⟩ | ⟨g, cap, cur, hv, _⟩
    · exact ⟨none, 0, by rw [hv, h0]⟩
    · exact ⟨_, _, hv⟩
  obtain ⟨kp, kc, rfl⟩ := hkform
  have ty : ∀ {k : Nat} {c c' : Array Value} {t t' : TypeId}, W.heap[k]? = some (.cells c t (0, 0)) → W.heap[k]? = some (.cells c' t' (0, 0)) → t = t' := fun h h' => by
    have := congrArg (fun o => match o with | some (Obj.cells _ t _) => t | _ => 0) (h.symm.trans h')
    simpa using this
  have hkc : ∀ X, Only W X r kb pv → ∀ j (hj : j < ks.length), ∃ g, kp = some ⟨g, 0, none⟩ ∧ X.cell? ⟨g, j, none⟩ = some (.int .i64 (ks[j] : Int)) := fun X hX j hj => by
    rcases hrow.2 with ⟨hv, h0⟩ | ⟨g, cap, cur, hv, _, hg, _⟩
    · omega
    · simp at hv
      obtain ⟨rfl, rfl⟩ := hv
      refine ⟨g, rfl, ?_⟩
      have hgl : g < W.heap.size := (Array.getElem?_eq_some_iff.1 hg).1
      have hsame : X.heap[g]? = W.heap[g]? := hX.block g hgl (fun e => by subst e; have := ty hg h.box; simp at this) (fun e => by subst e; have := ty hg h.kept; simp at this) (fun e => by
        obtain ⟨cur', hc⟩ := h.pblock e
        have := ty hg hc; simp at this)
      rw [World.cell?_of_block hsame]
      exact owned_cell hrow j _ (by rw [List.getElem?_map, List.getElem?_eq_getElem hj]; rfl)
  have hO0 : ∀ X, Below W.heap.size W X → Only W X r kb pv := fun X hb => ⟨hb.size, fun k hk _ _ _ => hb.block k hk⟩
  have HKC := Lib.hid hkc
  have HO0 := Lib.hid hO0
  have HLT := Lib.hid hlt
  have HND := Lib.hid hnd
  have HH := Lib.hid h
  obtain ⟨p, c, hv, hpc⟩ := h.form
  have c1 := h.c1
  rw [hv] at c1
  clear hkc hO0 hlt hnd ty hrow
  obtain ⟨Z, hZs, hzv⟩ := zero_any
  have HZS := Lib.hid hZs
  clear hZs h
  go_enter Try.func18, Try.ntmps18
  go_wp2_with fail
  clear c1
  have hBm : Below W.heap.size W (W.alloc (.cells (bools d.pend.length []).toArray 4)) := (Below.refl _ _).alloc (Nat.le_refl _) _
  have hm0 : (W.alloc (.cells (bools d.pend.length []).toArray 4)).heap[W.heap.size]? = some (.cells (bools d.pend.length []).toArray 4 (0, 0)) := World.alloc_heap_new W _
  generalize W.alloc (.cells (bools d.pend.length []).toArray 4) = W0 at hBm hm0 ⊢
  go_loopw [21] (fun v wr => ∃ i : Nat, i ≤ ks.length ∧ v = .int .i64 (i : Int) ∧ Below W.heap.size W wr ∧ wr.heap[W.heap.size]? = some (.cells (bools d.pend.length (ks.take i)).toArray 4 (0, 0))) (fun v _ => ks.length - (intOf v).toNat)
  case atStart => exact ⟨0, Nat.zero_le _, rfl, hBm, hm0⟩
  case round =>
    obtain ⟨i, hi, rfl, hBi, hmi⟩ := hrel
    clear hBm hm0
    by_cases hil : i < ks.length
    · obtain ⟨g, hg, hcg⟩ := HKC.out wr (HO0.out wr hBi) i hil
      subst hg
      have hkl' : ks[i] < d.pend.length := HLT.out _ (List.getElem_mem _)
      have hnm : decide (ks[i] ∈ ks.take i) = false := by
        rw [decide_eq_false_iff_not]
        intro hmem
        obtain ⟨j, hj, he⟩ := List.mem_iff_getElem.1 hmem
        rw [List.length_take] at hj
        rw [List.getElem_take] at he
        have := (List.getElem_inj HND.out).1 he
        omega
      have htk : ks.take (i + 1) = ks.take i ++ [ks[i]] := by rw [List.take_succ_eq_append_getElem hil]
      have hcm : wr.cell? ⟨W.heap.size, ks[i], none⟩ = some (.bool false) := by
        rw [cell_of_row _ _ _ _ _ (0, 0) hmi]
        have := bools_at d.pend.length (ks.take i) ks[i] hkl'
        rw [hnm] at this
        simpa using this
      have hfm : wr.frozen? ⟨W.heap.size, ks[i], none⟩ = false := frozen_of_row _ _ _ _ _ hmi
      have hset := heap_setCell_same wr W.heap.size ks[i] _ _ (.bool true) hmi
      have hs2 : (bools d.pend.length (ks.take i)).toArray.setIfInBounds ks[i] (.bool true) = (bools d.pend.length (ks.take (i + 1))).toArray := by
        rw [htk, ← bools_set _ _ _ hkl']; simp
      rw [hs2] at hset
      have hBn : Below W.heap.size W (wr.setCell ⟨W.heap.size, ks[i], none⟩ (.bool true)) := hBi.setCell (p := ⟨W.heap.size, ks[i], none⟩) (Nat.le_refl _) _
      generalize ks[i] = kk at hcg hkl' hcm hfm hset hBn
      have HS := Lib.hid hset
      have d0 : (0 : Int) ≤ (i : Int) := by omega
      have d1 : (i : Int) < (ks.length : Int) := by omega
      have d2 : (0 : Int) ≤ (kk : Int) := by omega
      have d3 : (kk : Int) < (d.pend.length : Int) := by omega
      have d4 : decide (d.pend.length ≤ kk) = false := decide_eq_false (by omega)
      clear hmi hnm htk hset hs2
      go_wp2_with fail
      exact ⟨⟨i + 1, by omega, by go_num, hBn, HS.out⟩, by simp [intOf]; omega⟩
    · obtain rfl : i = ks.length := by omega
      clear hmi
      have hD0 := Did.same HH.out hBi hz
      clear hmk
      subst hv
      have hfmq : 0 < d.pend.length → ∃ g, p = some ⟨g, 0, none⟩ := fun h0 => by
        obtain ⟨g, cap, hg, _⟩ := hD0.disk.pend.form h0
        simp at hg
        exact ⟨g, hg.1⟩
      have HFM := Lib.hid hfmq
      clear hfmq HH hBi
      have hgd0 := hD0.disk.good
      have HG := Lib.hid hgd0
      clear hgd0
      have hS0 : Did B W wr r kb (.slice p d.pend.length c) (.slice p d.pend.length c) ⟨layW d.kept (chosen d ks 0), d.pend, d.cut, d.left⟩ := hD0
      clear hD0
      go_wp2_with fail
      go_loopw [45] (fun v wr => ∃ i : Nat, i ≤ ks.length ∧ v = .int .i64 (i : Int) ∧ Did B W wr r kb (.slice p d.pend.length c) (.slice p d.pend.length c) ⟨layW d.kept (chosen d ks i), d.pend, d.cut, d.left⟩) (fun v _ => ks.length - (intOf v).toNat)
      case atStart => exact ⟨0, Nat.zero_le _, rfl, hS0⟩
      case round =>
        obtain ⟨i, hi, rfl, hDk⟩ := hrel
        clear hS0
        by_cases hil : i < ks.length
        · obtain ⟨gk, hgk, hcg⟩ := HKC.out wr hDk.only i hil
          subst hgk
          have hkk : ks[i] < d.pend.length := HLT.out _ (List.getElem_mem _)
          have hwsi := chosen_succ d ks i hil hkk
          obtain ⟨g, hpg⟩ := HFM.out (by omega)
          subst hpg
          have c1 := hDk.disk.c1
          replace c1 : wr.cell? ⟨r, 1, none⟩ = some (.slice (some ⟨g, 0, none⟩) d.pend.length c) := c1
          have d0 : (0 : Int) ≤ (i : Int) := by omega
          have d1 : (i : Int) < (ks.length : Int) := by omega
          generalize ks[i] = kk at hcg hkk hwsi
          obtain ⟨q, hq⟩ : ∃ q, q = d.pend[kk] := ⟨_, rfl⟩
          have hqg : q.2.length = 64 ∧ q.1 < d.kept.length := by rw [hq]; exact HG.out.p64 _ (List.getElem_mem _)
          have hts : chosen d ks (i + 1) = chosen d ks i ++ [q] := by rw [hq]; exact hwsi
          have hrange : wr.rangeAt g (kk * 65) (wcells q) := fun j v hv => by
            have := pcells_at d.pend kk hkk (fun p hp => (HG.out.p64 p hp).1) j v (by rw [← hq]; exact hv)
            exact owned_cell hDk.disk.pend (kk * 65 + j) v this
          have hw65 : (wcells q).length = 65 := by simp [wcells, hqg.1]
          have hi65 : (Try.prog.info? 65).map (·.size) = some (wcells q).length := by rw [hw65]; kernel_rfl
          have hi65' : (Try.prog.info? 65).map (·.size) = some (wcells q).toArray.size := by rw [List.size_toArray]; exact hi65
          have HTS := Lib.hid hts
          have HI := Lib.hid (⟨hw65, hi65, hi65', hrange, hqg⟩ : (wcells q).length = 65 ∧ (Try.prog.info? 65).map (·.size) = some (wcells q).length ∧ (Try.prog.info? 65).map (·.size) = some (wcells q).toArray.size ∧ wr.rangeAt g (kk * 65) (wcells q) ∧ q.2.length = 64 ∧ q.1 < d.kept.length)
          have HDK := Lib.hid hDk
          clear hq hts hw65 hi65 hi65' hrange hqg hDk
          have d2 : (0 : Int) ≤ (kk : Int) := by omega
          have d3 : (kk : Int) < (d.pend.length : Int) := by omega
          go_wp2_with (first
            | (with_reducible refine wpList_load_mid rfl 65 _ rfl g (kk * 65) rfl (wcells q) _ HI.out.2.2.2.1 Try.underlying65 rfl HI.out.2.1 ?_)
            | (with_reducible refine wpList_store_row rfl 65 _ _ rfl wr.heap.size (wcells q).toArray rfl rfl 65 Z (World.alloc_heap_new wr _) HI.out.2.2.1 (by rw [HZS.out, List.size_toArray, HI.out.1]) (all_oneCell_toArray (wcells_one q)) ?_; rw [World.setRow_alloc_new]))
          have hX := (HDK.out.disk.alloc (.cells (wcells q).toArray 65)).drew
          have hbX : Below B W (wr.alloc (.cells (wcells q).toArray 65)).drew := (HDK.out.below.alloc (Nat.le_trans hz HDK.out.below.size) _).drew
          have hnb : (wr.alloc (.cells (wcells q).toArray 65)).drew.heap[wr.heap.size]? = some (.cells (wcells q).toArray 65 (0, 0)) := World.alloc_heap_new wr _
          have hoX : Only W (wr.alloc (.cells (wcells q).toArray 65)).drew r kb (.slice (some ⟨g, 0, none⟩) d.pend.length c) :=
            ⟨Nat.le_trans HDK.out.only.size (by show wr.heap.size ≤ (wr.alloc _).heap.size; simp), fun b hb q1 q2 q3 => (Go.heap_alloc_old wr _ (Nat.lt_of_lt_of_le hb HDK.out.only.size)).trans (HDK.out.only.block b hb q1 q2 q3)⟩
          have hfr := HDK.out.fresh
          have hrb : r < wr.heap.size := HDK.out.disk.rlt
          have hkb : kb < wr.heap.size := HDK.out.disk.klt
          refine wp_region_held_drew (S := fun W' => W'.cell? ⟨r, 0, none⟩ = some (.slice (some ⟨kb, 0, none⟩) d.kept.length d.kept.length) ∧ W'.cell? ⟨wr.heap.size, 0, none⟩ = some (.int .i64 (q.1 : Int)) ∧ W'.rangeAt wr.heap.size 1 (q.2.map u8c)) (by kernel_rfl) ?_ (fun hHeld => ?_)
          · refine ⟨?_, cell_of_row _ _ 0 _ _ (0, 0) hnb, fun j v hv => ?_⟩
            · have := hX.c0
              rwa [show (layW d.kept (chosen d ks i)).length = d.kept.length from layW_length _ _] at this
            · exact (cell_of_row _ _ (1 + j) _ _ (0, 0) hnb).trans (by rw [Nat.add_comm]; simpa [wcells] using hv)
          generalize (wr.alloc (.cells (wcells q).toArray 65)).drew = X at hX hbX hnb hoX hHeld ⊢
          generalize wr.heap.size = nb at hnb hHeld hrb hkb ⊢
          obtain ⟨at', data⟩ := q
          have hat : at' < d.kept.length := HI.out.2.2.2.2.2
          have hd64 : data.length = 64 := HI.out.2.2.2.2.1
          have ha0 : (0 : Int) ≤ (at' : Int) := by omega
          have ha1 : (at' : Int) < (d.kept.length : Int) := by omega
          have hm64 : (data.map u8c).length = 64 := by rw [List.length_map]; exact hd64
          have his : (Try.prog.info? 63).map (·.size) = some (data.map u8c).length := by rw [hm64]; kernel_rfl
          have his' : (Try.prog.info? 63).map (·.size) = some (data.map u8c).toArray.size := by rw [List.size_toArray]; exact his
          have hth : X.there kb (at' * 64) (data.map u8c).toArray.size := fun j hj => by
            rw [List.size_toArray, hm64] at hj
            have hl := kcells_length (layW d.kept (chosen d ks i)) hX.good.k64
            have hll := layW_length d.kept (chosen d ks i)
            refine ⟨?_, frozen_of_row _ _ _ _ _ hX.kept⟩
            rw [cell_of_row _ _ (at' * 64 + j) _ _ (0, 0) hX.kept]
            rw [Array.getElem?_eq_getElem (by simp [hl, hll]; omega)]; rfl
          have hone : ∀ v ∈ data.map u8c, v.oneCell' = true := fun v hv => by obtain ⟨c, _, rfl⟩ := List.mem_map.1 hv; rfl
          have HT := Lib.hid (⟨hm64, his, his', hth, hone⟩ : (data.map u8c).length = 64 ∧ (Try.prog.info? 63).map (·.size) = some (data.map u8c).length ∧ (Try.prog.info? 63).map (·.size) = some (data.map u8c).toArray.size ∧ X.there kb (at' * 64) (data.map u8c).toArray.size ∧ ∀ v ∈ data.map u8c, v.oneCell' = true)
          clear hm64 his his' hth hone HDK hnb
          refine wpAnyH_take (i := 0) (v := ?v0) rfl (by kernel_rfl) (by kernel_rfl) (by kernel_rfl) (fun _ _ _ h => h) (Or.inl ⟨by rfl, ?y0⟩) hHeld ?r0
          case y0 => (intro w hSw; obtain ⟨q1, q2, _⟩ := hSw; go_simp; try with_reducible rfl)
          try simp only [Act.put, List.setIfInBounds_toArray, List.set_cons_zero, List.set_cons_succ, List.getElem_toArray, List.getElem_cons_succ, List.getElem_cons_zero]
          refine wpAnyH_take (i := 1) (v := ?v1) rfl (by kernel_rfl) (by kernel_rfl) (by kernel_rfl) (fun _ _ _ h => h) (Or.inl ⟨by rfl, ?y1⟩) hHeld ?r1
          case y1 => (intro w hSw; obtain ⟨q1, q2, _⟩ := hSw; go_simp; try with_reducible rfl)
          try simp only [Act.put, List.setIfInBounds_toArray, List.set_cons_zero, List.set_cons_succ, List.getElem_toArray, List.getElem_cons_succ, List.getElem_cons_zero]
          refine wpAnyH_take (i := 2) (v := ?v2) rfl (by kernel_rfl) (by kernel_rfl) (by kernel_rfl) (fun _ _ _ h => h) (Or.inl ⟨by rfl, ?y2⟩) hHeld ?r2
          case y2 => (intro w hSw; obtain ⟨q1, q2, _⟩ := hSw; go_simp; try with_reducible rfl)
          try simp only [Act.put, List.setIfInBounds_toArray, List.set_cons_zero, List.set_cons_succ, List.getElem_toArray, List.getElem_cons_succ, List.getElem_cons_zero]
          refine wpAnyH_take (i := 3) (v := ?v3) rfl (by kernel_rfl) (by kernel_rfl) (by kernel_rfl) (fun _ _ _ h => h) (Or.inl ⟨by rfl, ?y3⟩) hHeld ?r3
          case y3 => (intro w hSw; obtain ⟨q1, q2, _⟩ := hSw; go_simp; try with_reducible rfl)
          try simp only [Act.put, List.setIfInBounds_toArray, List.set_cons_zero, List.set_cons_succ, List.getElem_toArray, List.getElem_cons_succ, List.getElem_cons_zero]
          refine wpAnyH_take (i := 4) (v := ?v4) rfl (by kernel_rfl) (by kernel_rfl) (by kernel_rfl) (fun _ _ _ h => h) (Or.inl ⟨by rfl, ?y4⟩) hHeld ?r4
          case y4 => (intro w hSw; obtain ⟨q1, q2, _⟩ := hSw; go_simp; try with_reducible rfl)
          try simp only [Act.put, List.setIfInBounds_toArray, List.set_cons_zero, List.set_cons_succ, List.getElem_toArray, List.getElem_cons_succ, List.getElem_cons_zero]
          refine wpAnyH_take (i := 5) (v := ?v5) rfl (by kernel_rfl) (by kernel_rfl) (by kernel_rfl) (fun _ _ _ h => h) (Or.inl ⟨by rfl, ?y5⟩) hHeld ?r5
          case y5 => (intro w hSw; obtain ⟨q1, q2, _⟩ := hSw; go_simp; try with_reducible rfl)
          try simp only [Act.put, List.setIfInBounds_toArray, List.set_cons_zero, List.set_cons_succ, List.getElem_toArray, List.getElem_cons_succ, List.getElem_cons_zero]
          refine wpAnyH_take (i := 6) (v := ?v6) rfl (by kernel_rfl) (by kernel_rfl) (by kernel_rfl) (fun _ _ _ h => h) (Or.inl ⟨by rfl, ?y6⟩) hHeld ?r6
          case y6 => (intro w hSw; obtain ⟨q1, q2, _⟩ := hSw; go_simp; try with_reducible rfl)
          try simp only [Act.put, List.setIfInBounds_toArray, List.set_cons_zero, List.set_cons_succ, List.getElem_toArray, List.getElem_cons_succ, List.getElem_cons_zero]
          refine wpAnyH_take (i := 7) (v := _) rfl (by kernel_rfl) (by kernel_rfl) (by kernel_rfl) (fun _ _ _ h => h) (yieldsIf_load_mid (by rfl) 63 _ rfl nb 1 rfl (data.map u8c) _ (fun w h => h.2.2) Try.underlying63 rfl HT.out.2.1) hHeld ?r7
          try simp only [Act.put, List.setIfInBounds_toArray, List.set_cons_zero, List.set_cons_succ, List.getElem_toArray, List.getElem_cons_succ, List.getElem_cons_zero]
          refine wpAnyH_take (i := 8) (v := ?v8) rfl (by kernel_rfl) (by kernel_rfl) (by kernel_rfl) (fun _ _ _ h => h) (Or.inl ⟨by rfl, ?y8⟩) hHeld ?r8
          case y8 => (intro w hSw; obtain ⟨q1, q2, _⟩ := hSw; go_simp; try with_reducible rfl)
          try simp only [Act.put, List.setIfInBounds_toArray, List.set_cons_zero, List.set_cons_succ, List.getElem_toArray, List.getElem_cons_succ, List.getElem_cons_zero]
          refine wpAnyH_ready (rs := [9]) (by kernel_rfl) (by simp) ?_
          refine AllReadyH.cons (i := 9) rfl (fun K hK => ?_) AllReadyH.nil
          rw [if_pos (by rfl)]
          simp only [List.getElem_toArray, List.getElem_cons_succ, List.getElem_cons_zero]
          refine wp_store_mid _ _ _ rfl _ _ (List.toArray _) rfl rfl ?g1 ?g2 (all_oneCell_toArray HT.out.2.2.2.2) ?g3
          case g1 => exact HT.out.2.2.2.1
          case g2 => exact HT.out.2.2.1
          have hS : DAt B (X.setCells kb (at' * 64) (data.map u8c)) r kb (.slice (some ⟨g, 0, none⟩) d.pend.length c) ⟨layW d.kept (chosen d ks (i + 1)), d.pend, d.cut, d.left⟩ := by
            have := hX.setSector at' (by show at' < (layW d.kept (chosen d ks i)).length; rw [layW_length]; exact hat) data hd64
            rw [HTS.out, layW_snoc]
            exact this
          refine hK.out _ _ ?_ (fun _ => ?_)
          · rw [List.toList_toArray]
            refine ⟨?_, ?_, ?_⟩
            · rw [World.cell?_of_block (blocks_setCells kb _ _ X r hX.rk)]; exact hHeld.1
            · rw [World.cell?_of_block (blocks_setCells kb _ _ X nb (by omega))]; exact hHeld.2.1
            · exact World.rangeAt_setCells_apart hHeld.2.2 _ _ _ (.inl (by omega))
          clear hK K
          try simp only [Act.put, List.setIfInBounds_toArray, List.set_cons_zero, List.set_cons_succ, List.getElem_toArray, List.getElem_cons_succ, List.getElem_cons_zero]
          refine wpAnyH_done (by kernel_rfl) ?_ _
          have hDn : Did B W (X.setCells kb (at' * 64) (data.map u8c)) r kb (.slice (some ⟨g, 0, none⟩) d.pend.length c) (.slice (some ⟨g, 0, none⟩) d.pend.length c) ⟨layW d.kept (chosen d ks (i + 1)), d.pend, d.cut, d.left⟩ :=
            ⟨hS, below_setCells hX.lok _ _ _ hbX, ⟨by rw [size_setCells]; exact hoX.size, fun b hb q1 q2 q3 => (blocks_setCells kb _ _ X b q2).trans (hoX.block b hb q1 q2 q3)⟩, hfr⟩
          clear hS hHeld HT hX hbX hoX
          try rw [List.toList_toArray]
          generalize X.setCells kb (at' * 64) (data.map u8c) = X2 at hDn ⊢
          go_wp2_with fail
          exact ⟨⟨i + 1, by omega, by go_num, hDn⟩, by simp [intOf]; omega⟩
        · obtain rfl : i = ks.length := by omega
          rw [chosen_all] at hDk
          have f1 := hDk.disk.fz 1
          have e1 : DAt B (wr.setCell ⟨r, 1, none⟩ (.slice none 0 0)) r kb (.slice none 0 0) ⟨layW d.kept (ks.filterMap fun k => d.pend[k]?), [], d.cut, d.left⟩ := hDk.disk.setBox rfl rfl (World.ownsRow_nil _ _ _ _) ⟨hDk.disk.good.k64, fun p hp => by simp at hp, hDk.disk.good.few, hDk.disk.good.left⟩ (by simp [Value.ownBlock])
          have e2 : DAt B ((wr.setCell ⟨r, 1, none⟩ (.slice none 0 0)).setCell ⟨r, 2, none⟩ (.bool false)) r kb (.slice none 0 0) ⟨layW d.kept (ks.filterMap fun k => d.pend[k]?), [], false, d.left⟩ := e1.setBox rfl rfl (World.ownsRow_nil _ _ _ _) ⟨e1.good.k64, e1.good.p64, e1.good.few, e1.good.left⟩ (by simp [Value.ownBlock])
          have e3 : DAt B (((wr.setCell ⟨r, 1, none⟩ (.slice none 0 0)).setCell ⟨r, 2, none⟩ (.bool false)).setCell ⟨r, 3, none⟩ (.int .i64 0)) r kb (.slice none 0 0) ⟨layW d.kept (ks.filterMap fun k => d.pend[k]?), [], false, 0⟩ := e2.setBox rfl rfl (World.ownsRow_nil _ _ _ _) ⟨e2.good.k64, e2.good.p64, e2.good.few, Nat.zero_le _⟩ (by simp [Value.ownBlock])
          have f2 := e1.fz 2
          have c1 := hDk.disk.c1
          have c2 := e1.c2
          have c3 := e2.c3
          have f3 := e2.fz 3
          have hDn : Did B W (((wr.setCell ⟨r, 1, none⟩ (.slice none 0 0)).setCell ⟨r, 2, none⟩ (.bool false)).setCell ⟨r, 3, none⟩ (.int .i64 0)) r kb (.slice p d.pend.length c) (.slice none 0 0) ⟨layW d.kept (ks.filterMap fun k => d.pend[k]?), [], false, 0⟩ :=
            ⟨e3, ((hDk.below.setCell (p := ⟨r, 1, none⟩) hDk.disk.lor _).setCell (p := ⟨r, 2, none⟩) hDk.disk.lor _).setCell (p := ⟨r, 3, none⟩) hDk.disk.lor _, ⟨by have := hDk.only.size; simpa [World.setCell] using this, fun b hb q1 q2 q3 => (Below.heap_setCell _ ⟨r, 3, none⟩ _ b q1).trans ((Below.heap_setCell _ ⟨r, 2, none⟩ _ b q1).trans ((Below.heap_setCell wr ⟨r, 1, none⟩ _ b q1).trans (hDk.only.block b hb q1 q2 q3)))⟩, fun q hq => by simp [Value.ownBlock] at hq⟩
          clear hDk e1 e2 e3
          have HDN := Lib.hid hDn
          clear hDn
          clear HKC HO0 HLT HND
          go_wp2_with fail
          go_ret
          exact ⟨rfl, HDN.out⟩
set_option maxRecDepth 100000 in
set_option maxHeartbeats 4000000 in
/-- an order whose first fault, behind js, lies out of the row or has been met -/
theorem crash_bad (h : DAt B W r kb pv d) (hz : B ≤ W.heap.size) (hn : d.pend.length ≤ 100000) (kv : Value) (ks : List Int) (hkl : ks.length ≤ 100000) (hrow : W.ownsRow B 3 1 kv ks.length (ks.map (Value.int .i64)))
    (js : List Nat) (hjl : js.length < ks.length) (hpre : ∀ i (hi : i < js.length), ks[i]'(by omega) = (js[i] : Int)) (hlt : ∀ k ∈ js, k < d.pend.length) (hnd : js.Nodup)
    (hbad : ks[js.length] < 0 ∨ (d.pend.length : Int) ≤ ks[js.length] ∨ ∃ k ∈ js, ks[js.length] = (k : Int)) :
    Calls Try.prog 18 #[.pointer (some ⟨r, 0, none⟩), kv] W fun x W' => x = .returned (.int .i64 21) ∧ Did B W W' r kb pv pv d := by
  obtain ⟨ib, hib, hb0, hb1, hb2⟩ := info_parts infoBool
  have hmk : ∀ w : World, (Instr.makeSlice 46 (.int .i64 (d.pend.length : Int)) (.int .i64 (d.pend.length : Int))).run Try.prog w = .ok (.slice (some ⟨w.heap.size, 0, none⟩) d.pend.length d.pend.length) (w.alloc (.cells (bools d.pend.length []).toArray 4)) := fun w => by
    have := run_make (P := Try.prog) w 46 4 ib _ Try.underlying46 hib hb0 .i64 .i64 (d.pend.length : Int) (d.pend.length : Int) (by omega) (Int.le_refl _) (by rw [hb2]; omega) (by omega)
    rw [Int.toNat_natCast, hb1, made_bools] at this
    exact this
  obtain ⟨g, cap, cur, hv, _, hg, _⟩ := hrow.2.resolve_left (by rintro ⟨_, h0⟩; omega)
  subst hv
  have hgl : g < W.heap.size := (Array.getElem?_eq_some_iff.1 hg).1
  have hkc : ∀ X, Below W.heap.size W X → ∀ j (hj : j < ks.length), X.cell? ⟨g, j, none⟩ = some (.int .i64 ks[j]) := fun X hX j hj => by
    rw [World.cell?_of_block (hX.block g hgl)]
    exact owned_cell hrow j _ (by rw [List.getElem?_map, List.getElem?_eq_getElem hj]; rfl)
  have HKC := Lib.hid hkc
  have HLT := Lib.hid hlt
  have HND := Lib.hid hnd
  have HPRE := Lib.hid hpre
  have HBAD := Lib.hid hbad
  have HH := Lib.hid h
  obtain ⟨p, c, hv, hpc⟩ := h.form
  have c1 := h.c1
  rw [hv] at c1
  clear hkc hlt hnd hrow hpre hbad h hg hgl
  go_enter Try.func18, Try.ntmps18
  go_wp2_with fail
  clear c1
  have hBm : Below W.heap.size W (W.alloc (.cells (bools d.pend.length []).toArray 4)) := (Below.refl _ _).alloc (Nat.le_refl _) _
  have hm0 : (W.alloc (.cells (bools d.pend.length []).toArray 4)).heap[W.heap.size]? = some (.cells (bools d.pend.length []).toArray 4 (0, 0)) := World.alloc_heap_new W _
  generalize W.alloc (.cells (bools d.pend.length []).toArray 4) = W0 at hBm hm0 ⊢
  go_loopw [21] (fun v wr => ∃ i : Nat, i ≤ js.length ∧ v = .int .i64 (i : Int) ∧ Below W.heap.size W wr ∧ wr.heap[W.heap.size]? = some (.cells (bools d.pend.length (js.take i)).toArray 4 (0, 0))) (fun v _ => js.length - (intOf v).toNat)
  case atStart => exact ⟨0, Nat.zero_le _, rfl, hBm, hm0⟩
  case round =>
    obtain ⟨i, hi, rfl, hBi, hmi⟩ := hrel
    clear hBm hm0
    have hcg := HKC.out wr hBi i (by omega)
    have d0 : (0 : Int) ≤ (i : Int) := by omega
    have d1 : (i : Int) < (ks.length : Int) := by omega
    by_cases hil : i < js.length
    · rw [HPRE.out i hil] at hcg
      have hkl' : js[i] < d.pend.length := HLT.out _ (List.getElem_mem _)
      have hnm : decide (js[i] ∈ js.take i) = false := by
        rw [decide_eq_false_iff_not]
        intro hmem
        obtain ⟨j, hj, he⟩ := List.mem_iff_getElem.1 hmem
        rw [List.length_take] at hj
        rw [List.getElem_take] at he
        have := (List.getElem_inj HND.out).1 he
        omega
      have htk : js.take (i + 1) = js.take i ++ [js[i]] := by rw [List.take_succ_eq_append_getElem hil]
      have hcm : wr.cell? ⟨W.heap.size, js[i], none⟩ = some (.bool false) := by
        rw [cell_of_row _ _ _ _ _ (0, 0) hmi]
        have := bools_at d.pend.length (js.take i) js[i] hkl'
        rw [hnm] at this
        simpa using this
      have hfm : wr.frozen? ⟨W.heap.size, js[i], none⟩ = false := frozen_of_row _ _ _ _ _ hmi
      have hset := heap_setCell_same wr W.heap.size js[i] _ _ (.bool true) hmi
      have hs2 : (bools d.pend.length (js.take i)).toArray.setIfInBounds js[i] (.bool true) = (bools d.pend.length (js.take (i + 1))).toArray := by
        rw [htk, ← bools_set _ _ _ hkl']; simp
      rw [hs2] at hset
      have hBn : Below W.heap.size W (wr.setCell ⟨W.heap.size, js[i], none⟩ (.bool true)) := hBi.setCell (p := ⟨W.heap.size, js[i], none⟩) (Nat.le_refl _) _
      generalize js[i] = kk at hcg hkl' hcm hfm hset hBn
      have HS := Lib.hid hset
      have d2 : (0 : Int) ≤ (kk : Int) := by omega
      have d3 : (kk : Int) < (d.pend.length : Int) := by omega
      have d4 : decide (d.pend.length ≤ kk) = false := decide_eq_false (by omega)
      clear hmi hnm htk hset hs2
      go_wp2_with fail
      exact ⟨⟨i + 1, by omega, by go_num, hBn, HS.out⟩, by simp [intOf]; omega⟩
    · obtain rfl : i = js.length := by omega
      have hD0 := Did.same HH.out hBi hz
      rcases HBAD.out with hneg | hbig | ⟨k, hkj, hke⟩
      · generalize ks[js.length] = x at hcg hneg
        clear hmi hmk
        go_wp2_with fail
        go_ret
        exact ⟨rfl, hD0⟩
      · generalize ks[js.length] = x at hcg hbig
        have d2 : (0 : Int) ≤ x := by omega
        clear hmi hmk
        go_wp2_with fail
        go_ret
        exact ⟨rfl, hD0⟩
      · rw [hke] at hcg
        have hkl' : k < d.pend.length := HLT.out _ hkj
        have hcm : wr.cell? ⟨W.heap.size, k, none⟩ = some (.bool true) := by
          rw [cell_of_row _ _ _ _ _ (0, 0) hmi]
          have := bools_at d.pend.length (js.take js.length) k hkl'
          rw [List.take_of_length_le (Nat.le_refl _)] at this ⊢
          rw [decide_eq_true hkj] at this
          simpa using this
        have d2 : (0 : Int) ≤ (k : Int) := by omega
        have d3 : (k : Int) < (d.pend.length : Int) := by omega
        have d4 : decide (d.pend.length ≤ k) = false := decide_eq_false (by omega)
        clear hmi hmk
        go_wp2_with fail
        go_ret
        exact ⟨rfl, hD0⟩
end
end Go.Proofs.Ytnoegbogalfdgaa

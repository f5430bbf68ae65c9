/- Sync of a disk. -/
import Derived.Test.YtnoegbogalfdgaaDiskCells
import Derived.Deep.RegionHeld3
set_option linter.unusedSimpArgs false
set_option linter.unusedVariables false
namespace Go.Proofs.Ytnoegbogalfdgaa
open Go Go.RowKit Wire

/-- the cell of a new block ahead of a whole store: what a variable of a write holds -/
theorem zero_any : ∃ Z : Array Value, Z.size = 65 ∧ ∀ w : World, (zeroValue 65).run Try.prog w = .ok (.agg Z) w := ⟨_, rfl, zero_write⟩
theorem wcells_one (p : Nat × List UInt8) : ∀ u ∈ wcells p, u.oneCell' = true := fun u hu => by
  rcases List.mem_cons.1 hu with rfl | h
  · rfl
  · obtain ⟨c, _, rfl⟩ := List.mem_map.1 h; rfl

section
variable {B r kb : Nat} {W : World} {pv : Value} {d : DS}

set_option maxHeartbeats 1000000 in
theorem sync_off (h : DAt B W r kb pv d) (hp : d.cut = true) (hl : d.left = 0) :
    Calls Try.prog 10 #[.pointer (some ⟨r, 0, none⟩)] W fun x W' => x = .returned (.int .i64 22) ∧ W = W' := by
  have hpo := power_off h hp hl
  clear hp hl
  go_enter Try.func10, Try.ntmps10
  go_wp2_with fail
  refine hpo.mono ?_
  rintro x W1 ⟨rfl, rfl⟩
  go_wp2_with fail
  go_ret
  exact ⟨rfl, rfl⟩

set_option maxRecDepth 100000 in
set_option maxHeartbeats 1500000 in
theorem sync_ok (h : DAt B W r kb pv d) (hp : d.cut = false ∨ 0 < d.left) (hz : B ≤ W.heap.size) (hn : d.pend.length ≤ 100000) :
    Calls Try.prog 10 #[.pointer (some ⟨r, 0, none⟩)] W fun x W' => x = .returned (.int .i64 0) ∧ Did B W W' r kb pv (.slice none 0 0) ⟨layW d.kept d.pend, [], d.cut, d.spend.left⟩ := by
  have hpo := power_on h hp hz
  have hgood := h.good
  have hk' : d.spend = ⟨d.kept, d.pend, d.cut, d.spend.left⟩ := by unfold DS.spend; split <;> simp
  rw [hk'] at hpo
  generalize d.spend.left = lf at hpo
  obtain ⟨Z, hZs, hzv⟩ := zero_any
  have HG := Lib.hid hgood
  clear hp h hk' hgood
  go_enter Try.func10, Try.ntmps10
  go_wp2_with fail
  refine hpo.mono ?_
  rintro x W1 ⟨rfl, hD⟩
  clear hpo
  obtain ⟨p, c, hv, hpc⟩ := hD.disk.form
  replace hv : pv = .slice p d.pend.length c := hv
  have hfm : 0 < d.pend.length → ∃ g, p = some ⟨g, 0, none⟩ := fun h0 => by
    obtain ⟨g, cap, hg, _⟩ := hD.disk.pend.form h0
    rw [hv] at hg
    simp at hg
    exact ⟨g, hg.1⟩
  subst hv
  have c1 := hD.disk.c1
  replace c1 : W1.cell? ⟨r, 1, none⟩ = some (.slice p d.pend.length c) := c1
  have HFM := Lib.hid hfm
  have HZS := Lib.hid hZs
  clear hfm hZs
  have hD0 : Did B W W1 r kb (.slice p d.pend.length c) (.slice p d.pend.length c) ⟨layW d.kept (d.pend.take 0), d.pend, d.cut, lf⟩ := hD
  clear hD
  go_wp2_with fail
  go_loopw [15] (fun i wr => ∃ k : Nat, k ≤ d.pend.length ∧ i = .int .i64 (k : Int) ∧ Did B W wr r kb (.slice p d.pend.length c) (.slice p d.pend.length c) ⟨layW d.kept (d.pend.take k), d.pend, d.cut, lf⟩) (fun i _ => d.pend.length - (intOf i).toNat)
  case atStart => exact ⟨0, Nat.zero_le _, rfl, hD0⟩
  case round =>
    obtain ⟨k, hk, rfl, hDk⟩ := hrel
    clear c1 hD0
    by_cases hlt : k < d.pend.length
    · obtain ⟨g, hpg⟩ := HFM.out (by omega)
      subst hpg
      obtain ⟨q, hq⟩ : ∃ q, q = d.pend[k] := ⟨_, rfl⟩
      have hqg : q.2.length = 64 ∧ q.1 < d.kept.length := by rw [hq]; exact HG.out.p64 _ (List.getElem_mem _)
      have hts : d.pend.take (k + 1) = d.pend.take k ++ [q] := by rw [hq, List.take_succ_eq_append_getElem hlt]
      have hrange : wr.rangeAt g (k * 65) (wcells q) := fun j v hv => by
        have := pcells_at d.pend k hlt (fun p hp => (HG.out.p64 p hp).1) j v (by rw [← hq]; exact hv)
        exact owned_cell hDk.disk.pend (k * 65 + j) v this
      have hw65 : (wcells q).length = 65 := by simp [wcells, hqg.1]
      have hi65 : (Try.prog.info? 65).map (·.size) = some (wcells q).length := by rw [hw65]; kernel_rfl
      have hi65' : (Try.prog.info? 65).map (·.size) = some (wcells q).toArray.size := by rw [List.size_toArray]; exact hi65
      have HTS := Lib.hid hts
      have HI := Lib.hid (⟨hw65, hi65, hi65', hrange, hqg⟩ : (wcells q).length = 65 ∧ (Try.prog.info? 65).map (·.size) = some (wcells q).length ∧ (Try.prog.info? 65).map (·.size) = some (wcells q).toArray.size ∧ wr.rangeAt g (k * 65) (wcells q) ∧ q.2.length = 64 ∧ q.1 < d.kept.length)
      have HDK := Lib.hid hDk
      clear hq hts hw65 hi65 hi65' hrange hqg hDk
      have d0 : (0 : Int) ≤ (k : Int) := by omega
      have d1 : (k : Int) < (d.pend.length : Int) := by omega
      go_wp2_with (first
        | (with_reducible refine wpList_load_mid rfl 65 _ rfl g (k * 65) rfl (wcells q) _ HI.out.2.2.2.1 Try.underlying65 rfl HI.out.2.1 ?_)
        | (with_reducible refine wpList_store_row rfl 65 _ _ rfl wr.heap.size (wcells q).toArray rfl rfl 65 Z (World.alloc_heap_new wr _) HI.out.2.2.1 (by rw [HZS.out, List.size_toArray, HI.out.1]) (all_oneCell_toArray (wcells_one q)) ?_; rw [World.setRow_alloc_new]))
      have hX := (HDK.out.disk.alloc (.cells (wcells q).toArray 65)).drew
      have hbX : Below B W (wr.alloc (.cells (wcells q).toArray 65)).drew := (HDK.out.below.alloc (Nat.le_trans hz HDK.out.below.size) _).drew
      have hnb : (wr.alloc (.cells (wcells q).toArray 65)).drew.heap[wr.heap.size]? = some (.cells (wcells q).toArray 65 (0, 0)) := World.alloc_heap_new wr _
      have hoX : Only W (wr.alloc (.cells (wcells q).toArray 65)).drew r kb (.slice (some ⟨g, 0, none⟩) d.pend.length c) :=
        ⟨Nat.le_trans HDK.out.only.size (by show wr.heap.size ≤ (wr.alloc _).heap.size; simp), fun b hb q1 q2 q3 => (Go.heap_alloc_old wr _ (Nat.lt_of_lt_of_le hb HDK.out.only.size)).trans (HDK.out.only.block b hb q1 q2 q3)⟩
      have hfr := HDK.out.fresh
      have hrb : r < wr.heap.size := HDK.out.disk.rlt
      have hkb : kb < wr.heap.size := HDK.out.disk.klt
      refine wp_region_held_drew (S := fun W' => W'.cell? ⟨r, 0, none⟩ = some (.slice (some ⟨kb, 0, none⟩) d.kept.length d.kept.length) ∧ W'.cell? ⟨wr.heap.size, 0, none⟩ = some (.int .i64 (q.1 : Int)) ∧ W'.rangeAt wr.heap.size 1 (q.2.map u8c)) (by kernel_rfl) ?_ (fun hHeld => ?_)
      · refine ⟨?_, cell_of_row _ _ 0 _ _ (0, 0) hnb, fun j v hv => ?_⟩
        · have := hX.c0
          rwa [show (layW d.kept (d.pend.take k)).length = d.kept.length from layW_length _ _] at this
        · exact (cell_of_row _ _ (1 + j) _ _ (0, 0) hnb).trans (by rw [Nat.add_comm]; simpa [wcells] using hv)
      generalize (wr.alloc (.cells (wcells q).toArray 65)).drew = X at hX hbX hnb hoX hHeld ⊢
      generalize wr.heap.size = nb at hnb hHeld hrb hkb ⊢
      obtain ⟨at', data⟩ := q
      have hat : at' < d.kept.length := HI.out.2.2.2.2.2
      have hd64 : data.length = 64 := HI.out.2.2.2.2.1
      have ha0 : (0 : Int) ≤ (at' : Int) := by omega
      have ha1 : (at' : Int) < (d.kept.length : Int) := by omega
      have hm64 : (data.map u8c).length = 64 := by rw [List.length_map]; exact hd64
      have his : (Try.prog.info? 63).map (·.size) = some (data.map u8c).length := by rw [hm64]; kernel_rfl
      have his' : (Try.prog.info? 63).map (·.size) = some (data.map u8c).toArray.size := by rw [List.size_toArray]; exact his
      have hth : X.there kb (at' * 64) (data.map u8c).toArray.size := fun j hj => by
        rw [List.size_toArray, hm64] at hj
        have hl := kcells_length (layW d.kept (d.pend.take k)) hX.good.k64
        have hll := layW_length d.kept (d.pend.take k)
        refine ⟨?_, frozen_of_row _ _ _ _ _ hX.kept⟩
        rw [cell_of_row _ _ (at' * 64 + j) _ _ (0, 0) hX.kept]
        rw [Array.getElem?_eq_getElem (by simp [hl, hll]; omega)]; rfl
      have hone : ∀ v ∈ data.map u8c, v.oneCell' = true := fun v hv => by obtain ⟨c, _, rfl⟩ := List.mem_map.1 hv; rfl
      have HT := Lib.hid (⟨hm64, his, his', hth, hone⟩ : (data.map u8c).length = 64 ∧ (Try.prog.info? 63).map (·.size) = some (data.map u8c).length ∧ (Try.prog.info? 63).map (·.size) = some (data.map u8c).toArray.size ∧ X.there kb (at' * 64) (data.map u8c).toArray.size ∧ ∀ v ∈ data.map u8c, v.oneCell' = true)
      clear hm64 his his' hth hone HDK hnb
      refine wpAnyH_take (i := 0) (v := ?v0) rfl (by kernel_rfl) (by kernel_rfl) (by kernel_rfl) (fun _ _ _ h => h) (Or.inl ⟨by rfl, ?y0⟩) hHeld ?r0
      case y0 => (intro w hSw; obtain ⟨q1, q2, _⟩ := hSw; go_simp; try with_reducible rfl)
      try simp only [Act.put, List.setIfInBounds_toArray, List.set_cons_zero, List.set_cons_succ, List.getElem_toArray, List.getElem_cons_succ, List.getElem_cons_zero]
      refine wpAnyH_take (i := 1) (v := ?v1) rfl (by kernel_rfl) (by kernel_rfl) (by kernel_rfl) (fun _ _ _ h => h) (Or.inl ⟨by rfl, ?y1⟩) hHeld ?r1
      case y1 => (intro w hSw; obtain ⟨q1, q2, _⟩ := hSw; go_simp; try with_reducible rfl)
      try simp only [Act.put, List.setIfInBounds_toArray, List.set_cons_zero, List.set_cons_succ, List.getElem_toArray, List.getElem_cons_succ, List.getElem_cons_zero]
      refine wpAnyH_take (i := 2) (v := ?v2) rfl (by kernel_rfl) (by kernel_rfl) (by kernel_rfl) (fun _ _ _ h => h) (Or.inl ⟨by rfl, ?y2⟩) hHeld ?r2
      case y2 => (intro w hSw; obtain ⟨q1, q2, _⟩ := hSw; go_simp; try with_reducible rfl)
      try simp only [Act.put, List.setIfInBounds_toArray, List.set_cons_zero, List.set_cons_succ, List.getElem_toArray, List.getElem_cons_succ, List.getElem_cons_zero]
      refine wpAnyH_take (i := 3) (v := ?v3) rfl (by kernel_rfl) (by kernel_rfl) (by kernel_rfl) (fun _ _ _ h => h) (Or.inl ⟨by rfl, ?y3⟩) hHeld ?r3
      case y3 => (intro w hSw; obtain ⟨q1, q2, _⟩ := hSw; go_simp; try with_reducible rfl)
      try simp only [Act.put, List.setIfInBounds_toArray, List.set_cons_zero, List.set_cons_succ, List.getElem_toArray, List.getElem_cons_succ, List.getElem_cons_zero]
      refine wpAnyH_take (i := 4) (v := ?v4) rfl (by kernel_rfl) (by kernel_rfl) (by kernel_rfl) (fun _ _ _ h => h) (Or.inl ⟨by rfl, ?y4⟩) hHeld ?r4
      case y4 => (intro w hSw; obtain ⟨q1, q2, _⟩ := hSw; go_simp; try with_reducible rfl)
      try simp only [Act.put, List.setIfInBounds_toArray, List.set_cons_zero, List.set_cons_succ, List.getElem_toArray, List.getElem_cons_succ, List.getElem_cons_zero]
      refine wpAnyH_take (i := 5) (v := ?v5) rfl (by kernel_rfl) (by kernel_rfl) (by kernel_rfl) (fun _ _ _ h => h) (Or.inl ⟨by rfl, ?y5⟩) hHeld ?r5
      case y5 => (intro w hSw; obtain ⟨q1, q2, _⟩ := hSw; go_simp; try with_reducible rfl)
      try simp only [Act.put, List.setIfInBounds_toArray, List.set_cons_zero, List.set_cons_succ, List.getElem_toArray, List.getElem_cons_succ, List.getElem_cons_zero]
      refine wpAnyH_take (i := 6) (v := ?v6) rfl (by kernel_rfl) (by kernel_rfl) (by kernel_rfl) (fun _ _ _ h => h) (Or.inl ⟨by rfl, ?y6⟩) hHeld ?r6
      case y6 => (intro w hSw; obtain ⟨q1, q2, _⟩ := hSw; go_simp; try with_reducible rfl)
      try simp only [Act.put, List.setIfInBounds_toArray, List.set_cons_zero, List.set_cons_succ, List.getElem_toArray, List.getElem_cons_succ, List.getElem_cons_zero]
      refine wpAnyH_take (i := 7) (v := _) rfl (by kernel_rfl) (by kernel_rfl) (by kernel_rfl) (fun _ _ _ h => h) (yieldsIf_load_mid (by rfl) 63 _ rfl nb 1 rfl (data.map u8c) _ (fun w h => h.2.2) Try.underlying63 rfl HT.out.2.1) hHeld ?r7
      try simp only [Act.put, List.setIfInBounds_toArray, List.set_cons_zero, List.set_cons_succ, List.getElem_toArray, List.getElem_cons_succ, List.getElem_cons_zero]
      refine wpAnyH_take (i := 8) (v := ?v8) rfl (by kernel_rfl) (by kernel_rfl) (by kernel_rfl) (fun _ _ _ h => h) (Or.inl ⟨by rfl, ?y8⟩) hHeld ?r8
      case y8 => (intro w hSw; obtain ⟨q1, q2, _⟩ := hSw; go_simp; try with_reducible rfl)
      try simp only [Act.put, List.setIfInBounds_toArray, List.set_cons_zero, List.set_cons_succ, List.getElem_toArray, List.getElem_cons_succ, List.getElem_cons_zero]
      refine wpAnyH_ready (rs := [9]) (by kernel_rfl) (by simp) ?_
      refine AllReadyH.cons (i := 9) rfl (fun K hK => ?_) AllReadyH.nil
      rw [if_pos (by rfl)]
      simp only [List.getElem_toArray, List.getElem_cons_succ, List.getElem_cons_zero]
      refine wp_store_mid _ _ _ rfl _ _ (List.toArray _) rfl rfl ?g1 ?g2 (all_oneCell_toArray HT.out.2.2.2.2) ?g3
      case g1 => exact HT.out.2.2.2.1
      case g2 => exact HT.out.2.2.1
      have hS : DAt B (X.setCells kb (at' * 64) (data.map u8c)) r kb (.slice (some ⟨g, 0, none⟩) d.pend.length c) ⟨layW d.kept (d.pend.take (k + 1)), d.pend, d.cut, lf⟩ := by
        have := hX.setSector at' (by show at' < (layW d.kept (d.pend.take k)).length; rw [layW_length]; exact hat) data hd64
        rw [HTS.out, layW_snoc]
        exact this
      refine hK.out _ _ ?_ (fun _ => ?_)
      · rw [List.toList_toArray]
        refine ⟨?_, ?_, ?_⟩
        · rw [World.cell?_of_block (blocks_setCells kb _ _ X r hX.rk)]; exact hHeld.1
        · rw [World.cell?_of_block (blocks_setCells kb _ _ X nb (by omega))]; exact hHeld.2.1
        · exact World.rangeAt_setCells_apart hHeld.2.2 _ _ _ (.inl (by omega))
      clear hK K
      try simp only [Act.put, List.setIfInBounds_toArray, List.set_cons_zero, List.set_cons_succ, List.getElem_toArray, List.getElem_cons_succ, List.getElem_cons_zero]
      refine wpAnyH_done (by kernel_rfl) ?_ _
      have hDn : Did B W (X.setCells kb (at' * 64) (data.map u8c)) r kb (.slice (some ⟨g, 0, none⟩) d.pend.length c) (.slice (some ⟨g, 0, none⟩) d.pend.length c) ⟨layW d.kept (d.pend.take (k + 1)), d.pend, d.cut, lf⟩ :=
        ⟨hS, below_setCells hX.lok _ _ _ hbX, ⟨by rw [size_setCells]; exact hoX.size, fun b hb q1 q2 q3 => (blocks_setCells kb _ _ X b q2).trans (hoX.block b hb q1 q2 q3)⟩, hfr⟩
      clear hS hHeld HT hX hbX hoX
      try rw [List.toList_toArray]
      generalize X.setCells kb (at' * 64) (data.map u8c) = X2 at hDn ⊢
      go_wp2_with fail
      exact ⟨⟨k + 1, by omega, by go_num, hDn⟩, by simp [intOf]; omega⟩
    · obtain rfl : k = d.pend.length := by omega
      rw [List.take_of_length_le (Nat.le_refl _)] at hDk
      have c1 := hDk.disk.c1
      have f1 := hDk.disk.fz 1
      have hgd : (⟨layW d.kept d.pend, [], d.cut, lf⟩ : DS).good := ⟨hDk.disk.good.k64, fun p hp => by simp at hp, hDk.disk.good.few, hDk.disk.good.left⟩
      have hDn : Did B W (wr.setCell ⟨r, 1, none⟩ (.slice none 0 0)) r kb (.slice p d.pend.length c) (.slice none 0 0) ⟨layW d.kept d.pend, [], d.cut, lf⟩ :=
        ⟨hDk.disk.setBox rfl rfl (World.ownsRow_nil _ _ _ _) hgd (by simp [Value.ownBlock]), hDk.below.setCell (p := ⟨r, 1, none⟩) hDk.disk.lor _, ⟨by have := hDk.only.size; simpa [World.setCell] using this, fun b hb q1 q2 q3 => (Below.heap_setCell wr ⟨r, 1, none⟩ _ b q1).trans (hDk.only.block b hb q1 q2 q3)⟩, fun q hq => by simp [Value.ownBlock] at hq⟩
      clear hDk hgd
      go_wp2_with fail
      go_ret
      exact ⟨rfl, hDn⟩
end
end Go.Proofs.Ytnoegbogalfdgaa

/- Keep of the disk's law. -/
import Derived.Deep.AppendLies
import Derived.OwnWalk
import Derived.Test.YtepdncpgcpndoaaDiskPick
import Derived.Test.YtepdncpgcpndoaaLies
set_option linter.unusedSimpArgs false
set_option linter.unusedVariables false
namespace Wire
/-- which of m writes are kept, of so many raw numbers -/
def keepTo (l : List Int) (m i : Nat) : List Nat := (l.take i).foldl (fun a c => if pickOf c m ∈ a then a else a ++ [pickOf c m]) []
def keepOf (l : List Int) (m : Nat) : List Nat := if m = 0 then [] else keepTo l m 20
theorem keepTo_zero (l : List Int) (m : Nat) : keepTo l m 0 = [] := rfl
theorem keepTo_succ (l : List Int) (m i : Nat) (h : i < l.length) : keepTo l m (i + 1) = if pickOf l[i] m ∈ keepTo l m i then keepTo l m i else keepTo l m i ++ [pickOf l[i] m] := by
  unfold keepTo; rw [List.take_succ_eq_append_getElem h, List.foldl_append]; rfl
theorem keepTo_end (l : List Int) (m i : Nat) (h : l.length ≤ i) (h' : i ≤ 20) : keepTo l m i = keepTo l m 20 := by
  unfold keepTo; rw [List.take_of_length_le h, List.take_of_length_le (by omega)]
theorem keepTo_len (l : List Int) (m i : Nat) : (keepTo l m i).length ≤ i := by
  by_cases hil : i ≤ l.length
  · induction i with
    | zero => simp [keepTo]
    | succ i ih =>
      have := ih (by omega)
      rw [keepTo_succ l m i (by omega)]
      split
      · omega
      · simp; omega
  · have : ∀ (r : List Int) (a : List Nat), (r.foldl (fun a c => if pickOf c m ∈ a then a else a ++ [pickOf c m]) a).length ≤ a.length + r.length := by
      intro r
      induction r with
      | nil => intro a; simp
      | cons x r ih =>
        intro a
        rw [List.foldl_cons]
        refine Nat.le_trans (ih _) ?_
        split <;> simp <;> omega
    have h2 := this (l.take i) []
    unfold keepTo
    refine Nat.le_trans h2 ?_
    simp; omega
theorem keepOf_len (l : List Int) (m : Nat) : (keepOf l m).length ≤ 20 := by
  unfold keepOf; split
  · simp
  · exact keepTo_len l m 20
end Wire
namespace Go.Proofs.Ytepdncpgcpndoaa
open Go Go.RowKit Wire

theorem infoInt : (Try.prog.info? 3).map (fun i => (i.zero, i.size, i.bytes)) = some (some (.int .i64 0), 1, 8) := by kernel_rfl
theorem owned_base {W : World} {b b' : Nat} {e : TypeId} {size n : Nat} {v : Value} {xs : List Value} (h : W.ownsRow b e size v n xs) (hb : b' ≤ b) : W.ownsRow b' e size v n xs :=
  ⟨h.1, h.2.elim .inl (fun ⟨g, cap, cur, hv, hg, r⟩ => .inr ⟨g, cap, cur, hv, Nat.le_trans hb hg, r⟩)⟩
def ints (l : List Nat) : List Value := l.map fun k : Nat => Value.int .i64 (k : Int)

set_option maxRecDepth 100000 in
set_option maxHeartbeats 4000000 in
theorem keep_any (lv : Value) (l : List Int) (hll : l.length ≤ maxLen) (m : Nat) (hm : m ≤ 100000) (w : World) (hrow : Lies w lv l.length 1 (l.map (Value.int .i64))) (hr : ∀ c ∈ l, -9223372036854775808 ≤ c ∧ c ≤ 9223372036854775807) :
    Calls Try.prog 14 #[lv, .int .i64 (m : Int)] w fun x w' => ∃ v, x = .returned v ∧ w'.ownsRow w.heap.size 3 1 v (keepOf l m).length (ints (keepOf l m)) ∧ Below w.heap.size w w' := by
  obtain ⟨ib, hib, hb0, hb1, hb2⟩ := info_parts infoBool
  obtain ⟨i0, hi0, hz0, hz1, hz2⟩ := info_parts infoInt
  have hmk : ∀ w : World, (Instr.makeSlice 54 (.int .i64 (m : Int)) (.int .i64 (m : Int))).run Try.prog w = .ok (.slice (some ⟨w.heap.size, 0, none⟩) m m) (w.alloc (.cells (bools m []).toArray 4)) := fun w => by
    have := run_make (P := Try.prog) w 54 4 ib _ Try.underlying54 hib hb0 .i64 .i64 (m : Int) (m : Int) (by omega) (Int.le_refl _) (by rw [hb2]; omega) (by omega)
    rw [Int.toNat_natCast, hb1, made_bools] at this
    exact this
  have hkform : ∃ lp lc, lv = .slice lp l.length lc := by
    rcases hrow.2 with ⟨h0, p, c, hv⟩ | ⟨g, off, c, hv, _⟩
    · exact ⟨p, c, by rw [hv, h0]⟩
    · exact ⟨_, _, hv⟩
  obtain ⟨lp, lc, rfl⟩ := hkform
  have hkc : ∀ X, Below w.heap.size w X → ∀ j (hj : j < l.length), ∃ g off, lp = some ⟨g, off, none⟩ ∧ X.cell? ⟨g, off + j, none⟩ = some (.int .i64 l[j]) := fun X hX j hj => by
    rcases (hrow.below hX).2 with ⟨h0, _⟩ | ⟨g, off, c, hv, _, hc⟩
    · omega
    · simp at hv
      obtain ⟨rfl, rfl⟩ := hv
      exact ⟨g, off, rfl, hc j _ (by rw [List.getElem?_map, List.getElem?_eq_getElem hj]; rfl)⟩
  have HKC := Lib.hid hkc
  have HR := Lib.hid hr
  clear hkc hrow hr
  go_enter Try.func14, Try.ntmps14
  go_wp2_with fail
  have hBm : Below w.heap.size w (w.alloc (.cells (bools m []).toArray 4)) := (Below.refl _ _).alloc (Nat.le_refl _) _
  have hm0 : (w.alloc (.cells (bools m []).toArray 4)).heap[w.heap.size]? = some (.cells (bools m []).toArray 4 (0, 0)) := World.alloc_heap_new w _
  generalize w.alloc (.cells (bools m []).toArray 4) = W0 at hBm hm0 ⊢
  clear hmk
  go_loopw [5, 7] (fun v iv wr => ∃ i : Nat, i ≤ 20 ∧ i ≤ l.length ∧ (m = 0 → i = 0) ∧ iv = .int .i64 (i : Int) ∧ wr.ownsRow (w.heap.size + 1) 3 1 v (keepTo l m i).length (ints (keepTo l m i)) ∧ Below w.heap.size w wr ∧ wr.heap[w.heap.size]? = some (.cells (bools m (keepTo l m i)).toArray 4 (0, 0))) (fun _ iv _ => 20 - (intOf iv).toNat)
  case atStart => exact ⟨0, Nat.zero_le _, Nat.zero_le _, fun _ => rfl, rfl, World.ownsRow_nil _ _ _ _, hBm, hm0⟩
  case round =>
    obtain ⟨i, hi, hil, him, rfl, hown, hBi, hmi⟩ := hrel
    clear hBm hm0
    have d0 : (0 : Int) ≤ (i : Int) := by omega
    by_cases hgo : i < l.length ∧ i < 20 ∧ 0 < m
    · obtain ⟨h1, h2, h3⟩ := hgo
      have d1 : decide (i < l.length) = true := decide_eq_true h1
      have d2 : decide ((i : Int) < 20) = true := decide_eq_true (by omega)
      have d3 : decide (0 < m) = true := decide_eq_true h3
      obtain ⟨g, off, hg, hcg⟩ := HKC.out wr hBi i h1
      subst hg
      have hrc := HR.out l[i] (List.getElem_mem _)
      have hks := keepTo_succ l m i h1
      have hcl := pickOf_lt l[i] h3
      generalize l[i] = c at hcg hrc hks hcl
      have hcm : wr.cell? ⟨w.heap.size, pickOf c m, none⟩ = some (.bool (decide (pickOf c m ∈ keepTo l m i))) := by
        rw [cell_of_row _ _ _ _ _ (0, 0) hmi]
        simpa using bools_at m (keepTo l m i) (pickOf c m) hcl
      have hfm : wr.frozen? ⟨w.heap.size, pickOf c m, none⟩ = false := frozen_of_row _ _ _ _ _ hmi
      have hpk := pick_any c m hrc h3 (by omega) wr
      have hKL := keepTo_len l m i
      by_cases hin : pickOf c m ∈ keepTo l m i
      · rw [if_pos hin] at hks
        rw [decide_eq_true hin] at hcm
        have HM := Lib.hid hmi
        have HKS := Lib.hid hks
        have e0 : (0 : Int) ≤ (pickOf c m : Int) := by omega
        have e1 : (pickOf c m : Int) < (m : Int) := by omega
        clear hmi hks
        go_wp2_with fail
        refine hpk.mono ?_
        rintro x w1 ⟨rfl, rfl⟩
        go_wp2_with fail
        exact ⟨⟨i + 1, by omega, by omega, by omega, by go_num, by rw [HKS.out]; exact hown, hBi, by rw [HKS.out]; exact HM.out⟩, by simp [intOf]; omega⟩
      · rw [if_neg hin] at hks
        rw [decide_eq_false hin] at hcm
        have hset := heap_setCell_same wr w.heap.size (pickOf c m) _ _ (.bool true) hmi
        have hs2 : (bools m (keepTo l m i)).toArray.setIfInBounds (pickOf c m) (.bool true) = (bools m (keepTo l m (i + 1))).toArray := by
          rw [hks, ← bools_set _ _ _ hcl]; simp
        rw [hs2] at hset
        have hBn : Below w.heap.size w (wr.setCell ⟨w.heap.size, pickOf c m, none⟩ (.bool true)) := hBi.setCell (p := ⟨w.heap.size, pickOf c m, none⟩) (Nat.le_refl _) _
        have hown2 := ownsRow_setCell_below hown (a := ⟨w.heap.size, pickOf c m, none⟩) (Nat.lt_succ_self _) (.bool true)
        have hsz : w.heap.size < wr.heap.size := (Array.getElem?_eq_some_iff.1 hmi).1
        have HM := Lib.hid hset
        have HKS := Lib.hid hks
        have e0 : (0 : Int) ≤ (pickOf c m : Int) := by omega
        have e1 : (pickOf c m : Int) < (m : Int) := by omega
        clear hmi hks hset hs2 hin hown
        go_wp2_with fail
        refine hpk.mono ?_
        rintro x w1 ⟨rfl, rfl⟩
        clear hpk
        generalize pickOf c m = k at hcm hfm hown2 HM HKS e0 e1 hBn hcl
        have hsz3 : (wr.setCell ⟨w.heap.size, k, none⟩ (.bool true)).heap.size = wr.heap.size := by simp [World.setCell]
        have hnb : ((wr.setCell ⟨w.heap.size, k, none⟩ (.bool true)).alloc (.cells #[.int .i64 (k : Int)] 3)).heap[wr.heap.size]? = some (.cells #[.int .i64 (k : Int)] 3 (0, 0)) := by
          have := World.alloc_heap_new (wr.setCell ⟨w.heap.size, k, none⟩ (.bool true)) (.cells #[.int .i64 (k : Int)] 3)
          rwa [hsz3] at this
        have hnz : ((wr.setCell ⟨w.heap.size, k, none⟩ (.bool true)).alloc (.cells #[.int .i64 (k : Int)] 3)).heap.size = wr.heap.size + 1 := by rw [World.size_alloc, hsz3]
        have hown3 := hown2.alloc (.cells #[.int .i64 (k : Int)] 3)
        have hBa := hBn.alloc (by rw [hsz3]; omega) (.cells #[.int .i64 (k : Int)] 3)
        have hub : ((wr.setCell ⟨w.heap.size, k, none⟩ (.bool true)).alloc (.cells #[.int .i64 (k : Int)] 3)).heap[w.heap.size]? = some (.cells (bools m (keepTo l m (i + 1))).toArray 4 (0, 0)) := (Go.heap_alloc_old _ _ (by rw [hsz3]; exact hsz)).trans HM.out
        have HNB := Lib.hid hnb
        have HNZ := Lib.hid hnz
        have HOW := Lib.hid hown3
        have HBA := Lib.hid hBa
        have HUB := Lib.hid hub
        clear hnb hnz hown3 hBa hub hown2 hBn
        go_wp2_with (at_builtin; refine wpList_append_lies _ rfl _ _ _ rfl (w.heap.size + 1) 3 i0 _ 1 8 Try.underlying23 hi0 hz0 hz1 hz2 rfl (by omega) _ (keepTo l m i).length _ rfl HOW.out ⟨wr.heap.size, 0, none⟩ 1 1 [.int .i64 (k : Int)] rfl rfl (World.news_of_block (cs := #[.int .i64 (k : Int)]) (t := 3) (fr := (0, 0)) HNB.out) (by simp [Value.oneCell']) (by omega) (by simp [maxLen]; omega) (by omega) (by rw [HNZ.out]; omega) (wr.heap.size + 1) (by rw [HNZ.out]) ?_; intro gg cap w2 hown1 hgrow hat hlt2)
        have hB1 : Below w.heap.size w w2 := HBA.out.grown hgrow (by rw [HNZ.out]; omega) (fun g hg => Nat.le_of_succ_le (HOW.out.lt g hg).1)
        have hu2 : w2.heap[w.heap.size]? = some (.cells (bools m (keepTo l m (i + 1))).toArray 4 (0, 0)) := (hgrow.block _ (by rw [HNZ.out]; omega) (fun e => by have := (HOW.out.lt _ e.symm).1; omega)).trans HUB.out
        refine ⟨⟨i + 1, by omega, by omega, by omega, by go_num, ?_, hB1, hu2⟩, by simp [intOf]; omega⟩
        rw [HKS.out]
        simp only [ints, List.map_append, List.length_append, List.length_singleton, List.map_cons, List.map_nil]
        exact hown1
    · have hend : keepTo l m i = keepOf l m := by
        unfold keepOf
        by_cases h0 : m = 0
        · rw [if_pos h0, him h0, keepTo_zero]
        · rw [if_neg h0]
          by_cases h1 : i < l.length
          · have : i = 20 := by omega
            rw [this]
          · exact keepTo_end l m i (by omega) hi
      rw [hend] at hown
      have hout := owned_base hown (Nat.le_succ _)
      clear hmi hown hend
      by_cases h1 : i < l.length
      · have d1 : decide (i < l.length) = true := decide_eq_true h1
        by_cases h2 : i < 20
        · have d2 : decide ((i : Int) < 20) = true := decide_eq_true (by omega)
          obtain rfl : m = 0 := by omega
          go_wp2_with fail
          go_ret
          exact ⟨_, rfl, hout, hBi⟩
        · have d2 : decide ((i : Int) < 20) = false := decide_eq_false (by omega)
          go_wp2_with fail
          go_ret
          exact ⟨_, rfl, hout, hBi⟩
      · have d1 : decide (i < l.length) = false := decide_eq_false h1
        go_wp2_with fail
        go_ret
        exact ⟨_, rfl, hout, hBi⟩
end Go.Proofs.Ytepdncpgcpndoaa

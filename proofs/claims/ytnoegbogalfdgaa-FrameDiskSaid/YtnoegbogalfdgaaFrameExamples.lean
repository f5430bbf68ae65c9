/- examples: what each statement of frames asks first. -/
import Derived.Test.YtnoegbogalfdgaaFrameJoin
import Derived.Test.YtnoegbogalfdgaaFrameReadOf
set_option linter.unusedSimpArgs false
set_option linter.unusedVariables false
namespace Go.Proofs.Ytnoegbogalfdgaa
open Go Go.RowKit Wire

theorem flat_at : ∀ (fs : List Fr) (j : Nat) (h : j < fs.length) (i : Nat), i < 4 → (fs.flatMap Fr.cells)[j * 4 + i]? = fs[j].cells[i]?
  | f :: r, 0, _, i, hi => by
    have hl : f.cells.length = 4 := rfl
    rw [List.flatMap_cons, Nat.zero_mul, Nat.zero_add, List.getElem?_append_left (by omega)]
    rfl
  | f :: r, j + 1, h, i, hi => by
    have hl : f.cells.length = 4 := rfl
    rw [List.flatMap_cons, List.getElem?_append_right (by omega), hl, show (j + 1) * 4 + i - 4 = j * 4 + i by omega]
    exact flat_at r j (by simpa using h) i hi
theorem cells_lt {f : Fr} {i : Nat} {u : Value} (h : f.cells[i]? = some u) : i < 4 := (List.getElem?_eq_some_iff.1 h).1

/-- a slice of these frames, and join of it -/
theorem join_any {v : Value} {n : Nat} (fs : List Fr) (hm : fs.length ≤ 1000000) (hn : 0 < n) (w : World) (h : Lies w v n 4 (fs.flatMap Fr.cells)) :
    Calls Try.prog 14 #[v] w fun x w' => ∃ v, x = .returned (.tuple #[v, .int .i64 ((joinGo fs 0 [] [] false 0).2 : Nat)]) ∧
      w'.ownsRow w.heap.size 9 1 v (joinGo fs 0 [] [] false 0).1.length ((joinGo fs 0 [] [] false 0).1.map .string) ∧ Below w.heap.size w w' := by
  have hl : fs.length = n := by
    have h1 := h.1
    have : (fs.flatMap Fr.cells).length = 4 * fs.length := by
      clear h h1 hm
      induction fs with
      | nil => rfl
      | cons f r ih =>
        have hl : f.cells.length = 4 := rfl
        rw [List.flatMap_cons, List.length_append, ih, hl, List.length_cons]; omega
    omega
  rcases h.2 with ⟨h0, _⟩ | ⟨b, off, c, rfl, hb, hc⟩
  · omega
  · have := join_some b off c fs hm w hb (fun j hj i u hu => hc _ u (by rw [flat_at fs j hj i (cells_lt hu)]; exact hu))
    rw [hl] at this
    exact this

theorem same_any {v v' : Value} {n : Nat} (fs : List Fr) (hm : fs.length ≤ 1000000) (hn : 0 < n) (hl : fs.length = n) (w : World) (h : Lies w v n 4 (fs.flatMap Fr.cells)) (h' : Lies w v' n 4 (fs.flatMap Fr.cells)) :
    Calls Try.prog 19 #[v, v'] w fun x w' => x = .returned (.bool true) ∧ Below w.heap.size w w' := by
  rcases h.2 with ⟨h0, _⟩ | ⟨b, off, c, rfl, hb, hc⟩
  · omega
  · rcases h'.2 with ⟨h0, _⟩ | ⟨b', off', c', rfl, hb', hc'⟩
    · omega
    · have := same_some b off b' off' c c' fs hm w hb hb' (fun j hj i u hu => hc _ u (by rw [flat_at fs j hj i (cells_lt hu)]; exact hu)) (fun j hj i u hu => hc' _ u (by rw [flat_at fs j hj i (cells_lt hu)]; exact hu))
      rw [hl] at this
      exact this

/-- a block that is known whole, as a slice -/
theorem lies_block {W : World} {b n size cap : Nat} {xs : List Value} {t : TypeId} (h : W.heap[b]? = some (.cells xs.toArray t (0, 0))) (hl : xs.length = n * size) : Lies W (.slice (some ⟨b, 0, none⟩) n cap) n size xs :=
  ⟨hl, .inr ⟨b, 0, cap, rfl, (Array.getElem?_eq_some_iff.1 h).1, fun j u hu => by
    rw [Nat.zero_add, cell_of_row _ b j _ t (0, 0) h]; simpa using hu⟩⟩

abbrev exFrames : List Fr := [⟨1, 0, 3, ⟨#[97]⟩⟩, ⟨1, 0, 4, ⟨#[]⟩⟩, ⟨1, 0, 2, ⟨#[98]⟩⟩]
theorem ex_join : joinGo exFrames 0 [] [] false 0 = ([⟨#[97]⟩], 2) := by rfl

/-- what is carried along there -/
structure ExI (w W : World) (F : Nat) (v1 : Value) : Prop where
  below : Below w.heap.size w W
  texts : Lies W v1 1 1 ([(⟨#[97]⟩ : ByteArray)].map .string)
  box : W.heap[F]? = some (.cells #[.int .i64 65538, .int .i64 3, .int .i64 3, .string ⟨#[120, 121]⟩] 34 (0, 0))
theorem ExI.more {w W W' : World} {F : Nat} {v1 : Value} (h : ExI w W F v1) (hb : Below W.heap.size W W') : ExI w W' F v1 :=
  ⟨h.below.trans (hb.mono h.below.size), h.texts.below hb, (hb.block _ (Array.getElem?_eq_some_iff.1 h.box).1).trans h.box⟩
theorem ExI.alloc {w W : World} {F : Nat} {v1 : Value} (h : ExI w W F v1) (o : Obj) : ExI w (W.alloc o) F v1 := h.more ((Below.refl _ _).alloc (Nat.le_refl _) o)
theorem ExI.cell {w W : World} {F : Nat} {v1 : Value} (h : ExI w W F v1) (i : Nat) : W.cell? ⟨F, i, none⟩ = #[.int .i64 65538, .int .i64 3, .int .i64 3, .string ⟨#[120, 121]⟩][i]? := cell_of_row _ F i _ _ (0, 0) h.box

set_option maxRecDepth 100000 in
set_option maxHeartbeats 4000000 in
theorem examples_any (w : World) :
    Calls Try.prog 5 #[] w fun x w' => x = .returned (.bool true) ∧ Below w.heap.size w w' := by
  go_enter Try.func5, Try.ntmps5
  go_wp2_with fail
  have hB := (Below.refl w.heap.size w).alloc (Nat.le_refl _) (.cells (exFrames.flatMap Fr.cells).toArray 34)
  have h0 : (w.alloc (.cells (exFrames.flatMap Fr.cells).toArray 34)).heap[w.heap.size]? = some (.cells (exFrames.flatMap Fr.cells).toArray 34 (0, 0)) := World.alloc_heap_new w _
  refine (join_any (n := 3) exFrames (by decide) (by decide) _ (lies_block h0 rfl)).mono ?_
  rw [ex_join]
  rintro x w1 ⟨v1, rfl, hr1, hB1⟩
  replace hB := hB.trans (hB1.mono hB.size)
  have L1 : Lies w1 v1 1 1 ([(⟨#[97]⟩ : ByteArray)].map .string) := Lies.own hr1
  clear hB1 hr1 h0
  go_wp2_with fail
  have hrd := fun w => read_some 65538 3 3 ⟨#[120, 121]⟩ (by decide) w
  have hll : (Frame.lay 65538 3 3 [120, 121]).length = 64 := Frame.lay_length _ _ _ _ (by decide)
  have hlp : (Frame.lay 65538 3 3 [120, 121]).take 9 = [1, 0, 2, 3, 3, 2, 0, 120, 121] := by rfl
  refine (lay_good 65538 3 3 ⟨#[120, 121]⟩ (by decide) _).mono ?_
  rintro x w2 ⟨rfl, hB'⟩
  replace hB := hB.trans (hB'.mono hB.size)
  replace L1 := L1.below hB'
  clear hB'
  have HRD := Lib.hid hrd; clear hrd
  have HLL := Lib.hid hll; clear hll
  have HLP := Lib.hid hlp; clear hlp
  change Hid ((Frame.lay 65538 3 3 (⟨#[120, 121]⟩ : ByteArray).data.toList).length = 64) at HLL
  change Hid ((Frame.lay 65538 3 3 (⟨#[120, 121]⟩ : ByteArray).data.toList).take 9 = _) at HLP
  change Hid (∀ w, Calls Try.prog 13 #[.string ⟨(Frame.lay 65538 3 3 (⟨#[120, 121]⟩ : ByteArray).data.toList).toArray⟩] w fun x w' => x = .returned (.tuple #[frameV 65538 3 3 ⟨#[120, 121]⟩, .int .i64 0]) ∧ Below w.heap.size w w') at HRD
  generalize Frame.lay 65538 3 3 (⟨#[120, 121]⟩ : ByteArray).data.toList = L at HRD HLL HLP ⊢
  go_wp2_with fail
  refine (HRD.out _).mono ?_
  rintro x w3 ⟨rfl, hB'⟩
  replace hB := hB.trans (hB'.mono hB.size)
  replace L1 := L1.below hB'
  clear hB' HRD
  go_wp2_with fail
  have hX : ExI w (w3.alloc (.cells #[.int .i64 65538, .int .i64 3, .int .i64 3, .string ⟨#[120, 121]⟩] 34)) w3.heap.size v1 :=
    ⟨hB.alloc hB.size _, L1.below ((Below.refl _ _).alloc (Nat.le_refl _) _), World.alloc_heap_new w3 _⟩
  clear hB L1
  generalize w3.alloc (.cells #[.int .i64 65538, .int .i64 3, .int .i64 3, .string ⟨#[120, 121]⟩] 34) = W4 at hX ⊢
  generalize w3.heap.size = F at hX ⊢
  refine (lay_bad 0 0 0 ⟨#[]⟩ (by decide) _).mono ?_
  rintro x w5 ⟨rfl, hB'⟩
  replace hX := hX.more hB'
  clear hB'
  go_wp2_with fail
  refine (read_short ⟨#[120]⟩ (by decide) _).mono ?_
  rintro x w6 ⟨rfl, hB'⟩
  replace hX := hX.more hB'
  clear hB'
  go_wp2_with fail
  replace hX := hX.alloc (.cells #[.int .i64 0, .int .i64 0, .int .i64 0, .string ⟨#[]⟩] 34)
  generalize w6.alloc (.cells #[.int .i64 0, .int .i64 0, .int .i64 0, .string ⟨#[]⟩] 34) = W7 at hX ⊢
  refine (cut_good 9 62 ⟨#[97]⟩ 1 (by rfl) (by decide) (by decide) _).mono ?_
  rintro x w8 ⟨v8, rfl, hr8, hB'⟩
  replace hX := hX.more hB'
  have L8 : Lies w8 v8 1 4 ([(⟨9, 62, 3, ⟨#[97]⟩⟩ : Fr)].flatMap Fr.cells) := Lies.own hr8
  clear hB' hr8
  go_wp2_with fail
  refine (cut_bad 9 64 ⟨#[]⟩ (by decide) (by decide) _).mono ?_
  rintro x w9 ⟨rfl, rfl⟩
  go_wp2_with fail
  have hblk := World.alloc_heap_new w8 (.cells #[.string ⟨#[97]⟩] 9)
  replace hX := hX.alloc (.cells #[.string ⟨#[97]⟩] 9)
  replace L8 := L8.below ((Below.refl _ w8).alloc (Nat.le_refl _) (.cells #[.string ⟨#[97]⟩] 9))
  have LT : Lies (w8.alloc (.cells #[.string ⟨#[97]⟩] 9)) (.slice (some ⟨w8.heap.size, 0, none⟩) 1 1) 1 1 ([(⟨#[97]⟩ : ByteArray)].map .string) := lies_block (xs := [(⟨#[97]⟩ : ByteArray)].map .string) hblk rfl
  generalize w8.alloc (.cells #[.string ⟨#[97]⟩] 9) = W9 at hX L8 LT ⊢
  clear hblk
  refine (sameTexts_any [⟨#[97]⟩] [⟨#[97]⟩] _ (by decide) hX.texts LT).mono ?_
  rintro x w10 ⟨rfl, hB'⟩
  replace hX := hX.more hB'
  replace L8 := L8.below hB'
  clear hB' LT
  rw [show decide ([(⟨#[97]⟩ : ByteArray)] = [⟨#[97]⟩]) = true from decide_eq_true rfl]
  have e0 : w10.cell? ⟨F, 0, none⟩ = some (.int .i64 65538) := hX.cell 0
  have e1 : w10.cell? ⟨F, 1, none⟩ = some (.int .i64 3) := hX.cell 1
  have e2 : w10.cell? ⟨F, 2, none⟩ = some (.int .i64 3) := hX.cell 2
  have e3 : w10.cell? ⟨F, 3, none⟩ = some (.string ⟨#[120, 121]⟩) := hX.cell 3
  have hll := HLL.out
  have hlp : ((⟨L.toArray⟩ : ByteArray).extract 0 9).toList = [1, 0, 2, 3, 3, 2, 0, 120, 121] := by
    rw [Lib.extract_toList]
    simpa using HLP.out
  go_wp2_with fail
  have hblk := World.alloc_heap_new w10 (.cells #[.int .i64 9, .int .i64 62, .int .i64 3, .string ⟨#[97]⟩] 34)
  replace hX := hX.alloc (.cells #[.int .i64 9, .int .i64 62, .int .i64 3, .string ⟨#[97]⟩] 34)
  replace L8 := L8.below ((Below.refl _ w10).alloc (Nat.le_refl _) (.cells #[.int .i64 9, .int .i64 62, .int .i64 3, .string ⟨#[97]⟩] 34))
  have LF : Lies (w10.alloc (.cells #[.int .i64 9, .int .i64 62, .int .i64 3, .string ⟨#[97]⟩] 34)) (.slice (some ⟨w10.heap.size, 0, none⟩) 1 1) 1 4 ([(⟨9, 62, 3, ⟨#[97]⟩⟩ : Fr)].flatMap Fr.cells) := lies_block (xs := [(⟨9, 62, 3, ⟨#[97]⟩⟩ : Fr)].flatMap Fr.cells) hblk rfl
  generalize w10.alloc (.cells #[.int .i64 9, .int .i64 62, .int .i64 3, .string ⟨#[97]⟩] 34) = W11 at hX L8 LF ⊢
  clear hblk e0 e1 e2 e3 hll hlp
  refine (same_any (n := 1) [⟨9, 62, 3, ⟨#[97]⟩⟩] (by decide) (by decide) rfl _ L8 LF).mono ?_
  rintro x w12 ⟨rfl, hB'⟩
  replace hX := hX.more hB'
  clear hB' LF L8
  go_wp2_with fail
  refine (need_any 0 (by decide) _).mono ?_
  rintro x w13 ⟨rfl, rfl⟩
  rw [show Frame.need 0 = 1 from rfl]
  go_wp2_with fail
  refine (need_any 53 (by decide) _).mono ?_
  rintro x w13 ⟨rfl, rfl⟩
  rw [show Frame.need 53 = 1 from rfl]
  go_wp2_with fail
  refine (need_any 54 (by decide) _).mono ?_
  rintro x w13 ⟨rfl, rfl⟩
  rw [show Frame.need 54 = 2 from rfl]
  go_wp2_with fail
  refine (need_neg (-1) (by decide) _).mono ?_
  rintro x w13 ⟨rfl, rfl⟩
  have hfin := hX.below
  clear hX
  go_wp2_with fail
  go_ret
  exact ⟨rfl, hfin⟩
end Go.Proofs.Ytnoegbogalfdgaa

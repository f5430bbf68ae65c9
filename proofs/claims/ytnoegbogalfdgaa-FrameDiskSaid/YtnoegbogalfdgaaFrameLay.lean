/- Lay: the sector of a frame. -/
import Derived.Deep.RegionHeld3
import Derived.StillTailTactics
import Derived.RegionTactic
import Derived.Test.YtnoegbogalfdgaaFrameRight
import Derived.Test.YtnoegbogalfdgaaFrameBig
import Derived.Test.YtnoegbogalfdgaaWireSum
set_option linter.unusedSimpArgs false
set_option linter.unusedVariables false
namespace Go.Proofs.Ytnoegbogalfdgaa
open Go Go.RowKit Wire

set_option maxHeartbeats 1000000 in
theorem lay_bad (e a k : Int) (s : ByteArray) (h : Frame.right e a k s.data.toList = false) (w : World) :
    Calls Try.prog 8 #[frameV e a k s] w fun x w' => x = .returned (.tuple #[.string ⟨#[]⟩, .int .i64 120]) ∧ Below w.heap.size w w' := by
  go_enter Try.func8, Try.ntmps8
  go_wp2_with fail
  refine (right_any e a k s _).mono ?_
  rintro x w1 ⟨rfl, hB⟩
  go_wp2_with fail
  go_ret2
  exact ⟨rfl, ((Below.refl _ w).alloc (Nat.le_refl _) _).trans (hB.mono (by simp))⟩

theorem grownBy_row (W : World) (B : Nat) (cs : Array Value) : W.grownBy (W.setRow B cs) (some B) :=
  ⟨rfl, rfl, rfl, by simp [World.setRow], fun k _ hk => by
    have : k ≠ B := fun e => hk (by rw [e])
    simp [World.setRow, Array.getElem?_modify, Ne.symm this]⟩

/-- the frame's own box, and the sector's bytes -/
structure LayAt (w W : World) (B : Nat) (e a k : Int) (s : ByteArray) (l : List UInt8) : Prop where
  below : Below w.heap.size w W
  box : W.heap[w.heap.size]? = some (.cells #[.int .i64 e, .int .i64 a, .int .i64 k, .string s] 34 (0, 0))
  bytes : BytesAt W B 58 l
  lt : w.heap.size < B
section
variable {w W W' : World} {B : Nat} {e a k : Int} {s : ByteArray} {l l' : List UInt8}
theorem LayAt.cell (h : LayAt w W B e a k s l) (i : Nat) : W.cell? ⟨w.heap.size, i, none⟩ = #[.int .i64 e, .int .i64 a, .int .i64 k, .string s][i]? := cell_of_row _ _ i _ _ (0, 0) h.box
theorem LayAt.grown (h : LayAt w W B e a k s l) (hg : W.grownBy W' (some B)) (hl : BytesAt W' B 58 l') : LayAt w W' B e a k s l' :=
  ⟨h.below.grown hg h.below.size (fun g hg => by have := h.lt; simp at hg; omega), (hg.block _ (Array.getElem?_eq_some_iff.1 h.box).1 (by have := h.lt; simp; omega)).trans h.box, hl, h.lt⟩
theorem LayAt.drew (h : LayAt w W B e a k s l) : LayAt w W.drew B e a k s l := ⟨h.below.drew, h.box, h.bytes, h.lt⟩
theorem LayAt.set (h : LayAt w W B e a k s l) (i : Nat) (x : UInt8) : LayAt w (W.setCell ⟨B, i, none⟩ (u8c x)) B e a k s (l.set i x) :=
  h.grown (grownBy_set (World.grownBy.refl _ _) i _) (h.bytes.set i x)
theorem LayAt.more (h : LayAt w W B e a k s l) (hb : Below W.heap.size W W') : LayAt w W' B e a k s l :=
  ⟨h.below.trans (hb.mono h.below.size), (hb.block _ (Array.getElem?_eq_some_iff.1 h.box).1).trans h.box, h.bytes.below hb, h.lt⟩
end

theorem conv_of {W : World} {B : Nat} {p r : List UInt8} (h : BytesAt W B 58 (p ++ r)) (hp : p.length = 60) :
    (convert 60 9 (.slice (some ⟨B, 0, none⟩) 60 64)).run Try.prog W = .ok (.string ⟨p.toArray⟩) W := by
  have := run_convert_bytes_back (P := Try.prog) W 60 9 5 ⟨B, 0, none⟩ 64 p Try.underlying60 Try.underlying5 Try.underlying9 (fun j hj => by
    have h := h.cell (i := j) (by simp; omega)
    rw [List.getElem_append_left hj] at h
    have ea : (⟨B, 0, none⟩ : Addr).add j = ⟨B, j, none⟩ := by unfold Addr.add; split <;> simp_all
    rw [ea]
    exact h)
  rw [hp] at this
  exact this

set_option maxRecDepth 100000 in
set_option maxHeartbeats 1000000 in
theorem lay_good (e a k : Nat) (s : ByteArray) (h : Frame.right e a k s.data.toList = true) (w : World) :
    Calls Try.prog 8 #[frameV e a k s] w fun x w' => x = .returned (.tuple #[.string ⟨(Frame.lay e a k s.data.toList).toArray⟩, .int .i64 0]) ∧ Below w.heap.size w w' := by
  have hr : e ≤ 16777215 ∧ a < 64 ∧ k ≤ 4 ∧ s.size ≤ 53 := by
    unfold Frame.right at h
    rw [decide_eq_true_eq] at h
    simp at h
    omega
  obtain ⟨he, ha, hk, hs⟩ := hr
  go_enter Try.func8, Try.ntmps8
  go_wp2_with fail
  refine (right_any e a k s _).mono ?_
  rintro x w1 ⟨rfl, hB⟩
  rw [h]
  clear h
  go_wp2_with fail
  have hL : LayAt w (w1.alloc (.cells (Frame.noughts.map u8c).toArray 58)) w1.heap.size e a k s Frame.noughts := by
    have h0 : Below w.heap.size w w1 := ((Below.refl _ w).alloc (Nat.le_refl _) _).trans (hB.mono (by simp))
    have hbx : w1.heap[w.heap.size]? = some (.cells #[.int .i64 e, .int .i64 a, .int .i64 k, .string s] 34 (0, 0)) :=
      (hB.block _ (by simp)).trans (World.alloc_heap_new w _)
    have hlt := (Array.getElem?_eq_some_iff.1 hbx).1
    exact ⟨h0.alloc h0.size _, (show (w1.alloc _).heap[w.heap.size]? = w1.heap[w.heap.size]? from Go.heap_alloc_old w1 _ hlt).trans hbx, World.alloc_heap_new w1 _, hlt⟩
  generalize hW : w1.alloc (.cells (Frame.noughts.map u8c).toArray 58) = W at hL
  have hW' : w1.alloc (.cells #[.int .u8 0, .int .u8 0, .int .u8 0, .int .u8 0, .int .u8 0, .int .u8 0, .int .u8 0, .int .u8 0, .int .u8 0, .int .u8 0, .int .u8 0, .int .u8 0, .int .u8 0, .int .u8 0, .int .u8 0, .int .u8 0, .int .u8 0, .int .u8 0, .int .u8 0, .int .u8 0, .int .u8 0, .int .u8 0, .int .u8 0, .int .u8 0, .int .u8 0, .int .u8 0, .int .u8 0, .int .u8 0, .int .u8 0, .int .u8 0, .int .u8 0, .int .u8 0, .int .u8 0, .int .u8 0, .int .u8 0, .int .u8 0, .int .u8 0, .int .u8 0, .int .u8 0, .int .u8 0, .int .u8 0, .int .u8 0, .int .u8 0, .int .u8 0, .int .u8 0, .int .u8 0, .int .u8 0, .int .u8 0, .int .u8 0, .int .u8 0, .int .u8 0, .int .u8 0, .int .u8 0, .int .u8 0, .int .u8 0, .int .u8 0, .int .u8 0, .int .u8 0, .int .u8 0, .int .u8 0, .int .u8 0, .int .u8 0, .int .u8 0, .int .u8 0] 58) = W := hW
  rw [hW']
  clear hW hW' hB
  generalize w1.heap.size = B at hL ⊢
  have hc0 : W.cell? ⟨w.heap.size, 0, none⟩ = some (.int .i64 e) := hL.cell 0
  go_still_tail 3, (by kernel_rfl)
  change wpList _ _ _ _ _ W.drew
  replace hL := hL.drew
  generalize W.drew = W1 at hL ⊢
  clear hc0 W
  go_wp2_with fail
  refine (big_any B 0 3 64 e _ _ (by simp [Frame.noughts]) (by omega) (by omega) _ hL.bytes).mono ?_
  rintro x W2 ⟨⟨v, rfl⟩, hb, hg⟩
  replace hL := hL.grown hg hb
  clear hb hg
  rw [Frame.first_three] at hL
  have hc1 : W2.cell? ⟨w.heap.size, 1, none⟩ = some (.int .i64 a) := hL.cell 1
  have hc2 : W2.cell? ⟨w.heap.size, 2, none⟩ = some (.int .i64 k) := hL.cell 2
  have hc3 : W2.cell? ⟨w.heap.size, 3, none⟩ = some (.string s) := hL.cell 3
  have hl : (Frame.big3 e ++ List.replicate 61 (0 : UInt8)).length = 64 := by simp [Frame.big3]
  obtain ⟨b3, hb3⟩ : ∃ x : UInt8, W2.cell? ⟨B, 3, none⟩ = some (.int .u8 (x.toNat : Int)) := ⟨_, hL.bytes.cell (by rw [hl]; omega)⟩
  obtain ⟨b4, hb4⟩ : ∃ x : UInt8, W2.cell? ⟨B, 4, none⟩ = some (.int .u8 (x.toNat : Int)) := ⟨_, hL.bytes.cell (by rw [hl]; omega)⟩
  obtain ⟨b5, hb5⟩ : ∃ x : UInt8, W2.cell? ⟨B, 5, none⟩ = some (.int .u8 (x.toNat : Int)) := ⟨_, hL.bytes.cell (by rw [hl]; omega)⟩
  have hf3 := hL.bytes.frozen 3
  have hf4 := hL.bytes.frozen 4
  have hf5 := hL.bytes.frozen 5
  have hne : w.heap.size ≠ B := by have := hL.lt; omega
  have hne' : B ≠ w.heap.size := hne.symm
  clear hl
  go_wp2_with fail
  go_region
  have u8 : ∀ n : Nat, n < 256 → u8c (UInt8.ofNat n) = .int .u8 (n : Int) := fun n h => by unfold u8c; rw [Frame.ofNat_toNat h]
  replace hL := (((hL.set 3 (UInt8.ofNat a)).set 4 (UInt8.ofNat k)).set 5 (UInt8.ofNat s.size)).drew
  rw [Frame.head_of, u8 a (by omega), u8 k (by omega), u8 s.size (by omega)] at hL
  clear u8 hb3 hb4 hb5 hf3 hf4 hf5 hc1 hc2 hc3 hne hne'
  generalize (((W2.setCell ⟨B, 3, none⟩ (.int .u8 (a : Int))).setCell ⟨B, 4, none⟩ (.int .u8 (k : Int))).setCell ⟨B, 5, none⟩ (.int .u8 (s.size : Int))).drew = W3 at hL ⊢
  clear W2 W1 w1
  have hc3 : W3.cell? ⟨w.heap.size, 3, none⟩ = some (.string s) := hL.cell 3
  go_wp2_with fail
  go_still_tail 3, (by kernel_rfl)
  change wpList _ _ _ _ _ W3.drew
  replace hL := hL.drew
  generalize W3.drew = W4 at hL ⊢
  clear hc3 W3
  have hcp := fun ty => Lib.run_copy_row_string (P := Try.prog) W4 60 9 ty 5 B 7 53 57 s _ _ Try.underlying60 (by kernel_rfl) hL.bytes hs (by simp [Frame.big3]; omega)
  have hcd := hL.bytes.copied s 7
  obtain ⟨W5, hW5⟩ : ∃ W5, W5 = W4.setRow B (((((Frame.big3 e ++ ([UInt8.ofNat a, UInt8.ofNat k, UInt8.ofNat s.size, 0] ++ List.replicate 57 0)).map u8c).toArray.toList.take 7 ++ Lib.byteCells s.data.toList ++ ((Frame.big3 e ++ ([UInt8.ofNat a, UInt8.ofNat k, UInt8.ofNat s.size, 0] ++ List.replicate 57 0)).map u8c).toArray.toList.drop (7 + s.size))).toArray) := ⟨_, rfl⟩
  rw [← hW5] at hcd hcp
  have hg : W4.grownBy W5 (some B) := by rw [hW5]; exact grownBy_row _ _ _
  have hsl : s.size = s.data.toList.length := by simp
  rw [hsl, Frame.text_of e _ rfl _ (by simp; omega), ← hsl] at hcd
  have hL5 := hL.grown hg hcd
  have HSL := Lib.hid hsl
  clear hcd hg hW5 hsl
  go_wp2_with fail
  clear hcp hL W4
  have hsl := HSL.out
  clear HSL
  replace hL5 := hL5.drew
  have hbd : (Frame.big3 e ++ ([UInt8.ofNat a, UInt8.ofNat k, UInt8.ofNat s.size, 0] ++ (s.data.toList ++ List.replicate (53 - s.size) 0))) = Frame.body e a k s.data.toList := by unfold Frame.body; rw [← hsl]
  rw [hbd] at hL5
  have hlen := Frame.body_length e a k s.data.toList (by omega)
  clear hbd hsl
  generalize hbde : Frame.body e a k s.data.toList = bd at hL5 hlen
  have HBD := Lib.hid hbde; clear hbde
  have hconv := conv_of hL5.bytes hlen
  have hbz : (⟨bd.toArray⟩ : ByteArray).size ≤ 9223372036854775807 := by show bd.toArray.size ≤ _; simp; omega
  have hcl := Wire.crc_lt bd
  have hl64 : 60 + 4 ≤ (bd ++ List.replicate 4 (0 : UInt8)).length := by simp; omega
  have HB := Lib.hid hlen; clear hlen
  have HC := Lib.hid hcl; clear hcl
  have HL := Lib.hid hl64; clear hl64
  go_region_held3 (fun w' => (convert 60 9 (.slice (some ⟨B, 0, none⟩) 60 64)).run Try.prog w' = .ok (.string ⟨bd.toArray⟩) w')
    (first
      | assumption
      | exact conv_of (hL5.more hB7).bytes HB.out
      | exact conv_of (Frame.last_four _ HB.out _ ▸ hb) HB.out)
    (first
      | (go_at_call 23; refine (sum_any ⟨bd.toArray⟩ hbz _).mono ?_; rintro x W7 ⟨rfl, hB7⟩)
      | (go_at_call 22; refine (big_any B 60 4 4 (Wire.crc bd) _ _ HL.out (by omega) HC.out _ (hL5.more hB7).bytes).mono ?_; rintro x W8 ⟨⟨v2, rfl⟩, hb, hg⟩))
  have hlen := HB.out
  clear HB HC HL hconv
  replace hL5 := hL5.more hB7
  rw [Frame.last_four _ hlen] at hb
  replace hL5 := hL5.grown hg hb
  clear hb hg hB7
  have hlay : Frame.lay e a k s.data.toList = bd ++ Frame.big4 (Wire.crc bd) := by unfold Frame.lay; rw [HBD.out]
  have hl64 : (bd ++ Frame.big4 (Wire.crc bd)).length = 64 := by simp [Frame.big4, hlen]
  have HY := Lib.hid hlay; clear hlay HBD
  generalize bd ++ Frame.big4 (Wire.crc bd) = sec at hL5 hl64 HY
  have hconv : (convert 60 9 (.slice (some ⟨B, 0, none⟩) 64 64)).run Try.prog W8 = .ok (.string ⟨sec.toArray⟩) W8 := by
    have := run_convert_bytes_back (P := Try.prog) W8 60 9 5 ⟨B, 0, none⟩ 64 sec Try.underlying60 Try.underlying5 Try.underlying9 (fun j hj => by
      have h := hL5.bytes.cell (i := j) hj
      have ea : (⟨B, 0, none⟩ : Addr).add j = ⟨B, j, none⟩ := by unfold Addr.add; split <;> simp_all
      rw [ea]
      exact h)
    rw [hl64] at this
    exact this
  have hBl := hL5.below
  clear hL5 hl64 hlen
  go_wp2_with fail
  go_ret2
  exact ⟨by rw [HY.out]; rfl, hBl⟩
end Go.Proofs.Ytnoegbogalfdgaa

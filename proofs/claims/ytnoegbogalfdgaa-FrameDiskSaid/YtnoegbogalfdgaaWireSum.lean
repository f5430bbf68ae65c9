/- Sum(s). -/
import Derived.RangeFuncBox
import Derived.WalkKit
import Derived.Shelf.RegionOpen
import Derived.Lib.Hide
import Derived.Outline
import Derived.IntWalk
import Derived.BigQuiet
import Derived.Deep.QuietTactic
import Derived.StillTailTactics
import Derived.WalkLawsBesides
import Derived.Laws.BitsAllLaws
import Derived.RegionTactic
import Derived.Test.YtnoegbogalfdgaaProg
import Derived.Test.YtnoegbogalfdgaaWireCrc
set_option linter.unusedSimpArgs false
set_option linter.unusedVariables false
namespace Go.Proofs.Ytnoegbogalfdgaa
open Go Go.RowKit Go.Shelf

theorem u32_half_xor (c : Nat) (h : c < 4294967296) : bits .xor .u32 ((c : Int) / 2) 3988292384 = ((c / 2 ^^^ 3988292384 : Nat) : Int) := by
  have := u32_xor_nat (c / 2) 3988292384 (by omega) (by omega)
  rw [← this]; congr 1

set_option maxHeartbeats 400000 in
theorem turn_any (B : Nat) (c : Nat) (hc : c < 4294967296) (w : World) (hb : Boxed w B 70 (.int .u32 (c : Int))) :
    Calls Try.prog 27 #[.pointer (some ⟨B, 0, none⟩)] w fun e w' => (∃ v, e = .returned v) ∧ w' = w.setCell ⟨B, 0, none⟩ (.int .u32 (Wire.turn c : Int)) := by
  have hcell := hb.cell
  have hfro := hb.frozen
  by_cases h : c % 2 = 1
  · have ht : (Wire.turn c : Int) = bits .xor .u32 ((c : Int) / 2) 3988292384 := by rw [u32_half_xor c hc]; simp [Wire.turn, h]
    have HT := Lib.hid ht; clear ht
    have hp : ((c : Int) % 2 == 1) = true := by rw [beq_iff_eq]; omega
    go_enter Try.func27, Try.ntmps27
    go_wp2
    go_end0
    exact ⟨⟨_, rfl⟩, by rw [HT.out]⟩
  · have ht : (Wire.turn c : Int) = (c : Int) / 2 := by simp [Wire.turn, h]
    have HT := Lib.hid ht; clear ht
    have hp : ((c : Int) % 2 == 1) = false := by rw [beq_eq_false_iff_ne]; omega
    go_enter Try.func27, Try.ntmps27
    go_wp2
    go_end0
    exact ⟨⟨_, rfl⟩, by rw [HT.out]⟩

theorem xor_u32_byte (c : Nat) (hc : c < 4294967296) (b : UInt8) : bits .xor .u32 (c : Int) (b.toNat : Int) = ((c ^^^ b.toNat : Nat) : Int) :=
  u32_xor_nat c b.toNat hc (by have := b.toNat_lt; omega)

set_option maxHeartbeats 1000000 in
theorem sum_any (s : ByteArray) (hs : s.size ≤ 9223372036854775807) (w : World) :
    Calls Try.prog 23 #[.string s] w fun e w' => e = .returned (.int .i64 (Wire.crc s.data.toList : Int)) ∧ Below w.heap.size w w' := by
  go_enter Try.func23, Try.ntmps23
  go_wp2
  have hb0 := Boxed.new w 70 (.int .u32 4294967295)
  go_loopw [9] (fun i wr => ∃ k : Nat, k ≤ s.size ∧ i = .int .i64 (k : Int) ∧ Boxed wr w.heap.size 70 (.int .u32 (Wire.state 4294967295 (s.data.toList.take k) : Int)) ∧ Below w.heap.size w wr) (fun i _ => s.size - (intOf i).toNat)
  case atStart => exact ⟨0, Nat.zero_le _, rfl, hb0, (Below.refl _ w).alloc (Nat.le_refl _) _⟩
  case round =>
    obtain ⟨k, hk, rfl, hbx, hB⟩ := hrel
    have hlt32 := Wire.state_lt (c := 4294967295) (by decide) (s.data.toList.take k)
    generalize hst : Wire.state 4294967295 (s.data.toList.take k) = c at hbx hlt32
    have HST := Lib.hid hst; clear hst
    have hcell := hbx.cell
    have hfro := hbx.frozen
    by_cases hlt : k < s.size
    · go_wp2
      go_region
      have hsk : s[k].toNat < 256 := s[k].toNat_lt
      have hx : bits .xor .u32 (c : Int) ((s[k].toNat : Int) % 4294967296) = ((c ^^^ s[k].toNat : Nat) : Int) := by
        rw [show ((s[k].toNat : Int) % 4294967296) = (s[k].toNat : Int) from by omega]
        exact xor_u32_byte c hlt32 s[k]
      rw [hx]
      have hbx1 : Boxed (wr.setCell ⟨w.heap.size, 0, none⟩ (.int .u32 ((c ^^^ s[k].toNat : Nat) : Int))).drew w.heap.size 70 (.int .u32 ((c ^^^ s[k].toNat : Nat) : Int)) := hbx.set _
      have hB1 : Below w.heap.size w (wr.setCell ⟨w.heap.size, 0, none⟩ (.int .u32 ((c ^^^ s[k].toNat : Nat) : Int))).drew := (hB.setCell (p := ⟨w.heap.size, 0, none⟩) (Nat.le_refl _) _).drew
      have hc2 := Wire.xor_byte_lt hlt32 s[k]
      have hkk : (s.data.toList.take (k + 1)) = s.data.toList.take k ++ [s[k]] := by
        rw [List.take_succ_eq_append_getElem (by simpa using hlt)]; rfl
      have hfin : Wire.state 4294967295 (s.data.toList.take (k + 1)) = Wire.turns 8 (c ^^^ s[k].toNat) := by
        rw [hkk, Wire.state_snoc, HST.out]; rfl
      have HF := Lib.hid hfin; clear hfin hkk hx
      generalize hd : c ^^^ s[k].toNat = d at hbx1 hB1 hc2 HF ⊢
      clear hd
      generalize hW1 : (wr.setCell ⟨w.heap.size, 0, none⟩ (.int .u32 (d : Int))).drew = W1 at hbx1 hB1 ⊢
      clear hW1 hcell hfro hbx hB hsk
      go_wp2
      go_loopw [18] (fun j wq => ∃ m : Nat, m ≤ 8 ∧ j = .int .i64 (m : Int) ∧ Boxed wq w.heap.size 70 (.int .u32 (Wire.turns m d : Int)) ∧ Below w.heap.size w wq) (fun j _ => 8 - (intOf j).toNat)
      case atStart => exact ⟨0, by omega, rfl, hbx1, hB1⟩
      case round =>
        obtain ⟨m, hm, rfl, hbq, hBq⟩ := hrel
        have hmlt := Wire.turns_lt hc2 m
        by_cases hm8 : m < 8
        · go_wp2_with (go_at_call 27; refine (turn_any _ _ hmlt _ hbq).mono ?_; rintro e w' ⟨⟨v, rfl⟩, rfl⟩)
          go_roundw
          case rel => exact ⟨m + 1, by omega, by go_num, hbq.set _, hBq.setCell (p := ⟨w.heap.size, 0, none⟩) (Nat.le_refl _) _⟩
          case measure => simp [intOf]; omega
        · obtain rfl : m = 8 := by omega
          go_wp2
          go_roundw
          case rel => exact ⟨k + 1, by omega, by go_num, by rw [HF.out]; exact hbq, hBq⟩
          case measure => simp [intOf]; omega
    · obtain rfl : k = s.size := by omega
      have hfin : Wire.crc s.data.toList = c ^^^ 4294967295 := by
        unfold Wire.crc
        rw [← HST.out, List.take_of_length_le (by simp)]
      have hx : bits .xor .u32 IntKind.u32.max (c : Int) = ((c ^^^ 4294967295 : Nat) : Int) := by
        have := u32_xor_nat 4294967295 c (by omega) hlt32
        rw [Nat.xor_comm, ← this]; rfl
      have hr := Wire.crc_lt s.data.toList
      have hw : wrap64 ((c ^^^ 4294967295 : Nat) : Int) = ((c ^^^ 4294967295 : Nat) : Int) := by
        rw [hfin] at hr
        generalize c ^^^ 4294967295 = z at hr ⊢
        exact IntWalk.wrap64_in _ (by omega)
      have HX := Lib.hid hx; clear hx
      have HF := Lib.hid hfin; clear hfin
      have HW := Lib.hid hw; clear hw
      go_wp2
      go_ret
      exact ⟨by rw [HX.out, HW.out, HF.out]; rfl, hB⟩
end Go.Proofs.Ytnoegbogalfdgaa

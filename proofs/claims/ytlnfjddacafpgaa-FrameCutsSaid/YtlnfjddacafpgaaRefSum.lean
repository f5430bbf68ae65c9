/- The reference's small functions: Right, bytes, Sum. -/
import Derived.Test.YtlnfjddacafpgaaWireSum
import Derived.Test.YtlnfjddacafpgaaFrameRight
import Derived.Test.YtlnfjddacafpgaaFrameMath
import Derived.Laws.BitsAllLaws
namespace Frame
/-- a number in so many bytes, the greatest one first -/
def bytesOf : Nat → Nat → List UInt8
  | 0, _ => []
  | m + 1, n => bytesOf m (n / 256) ++ [UInt8.ofNat (n % 256)]
theorem bytesOf_length : ∀ (m n : Nat), (bytesOf m n).length = m
  | 0, _ => rfl
  | m + 1, n => by simp [bytesOf, bytesOf_length m]
theorem bytesOf_three (n : Nat) : bytesOf 3 n = big3 n := by
  simp only [bytesOf, big3, List.nil_append, List.cons_append, Nat.div_div_eq_div_mul]
theorem bytesOf_four (n : Nat) : bytesOf 4 n = big4 n := by
  simp only [bytesOf, big4, List.nil_append, List.cons_append, Nat.div_div_eq_div_mul]
theorem bytesOf_one (n : Nat) (h : n < 256) : bytesOf 1 n = [UInt8.ofNat n] := by
  simp only [bytesOf, List.nil_append]
  rw [Nat.mod_eq_of_lt h]
theorem bytesOf_back : ∀ (i m n : Nat), bytesOf (m + i) n = bytesOf m (n / 256 ^ i) ++ bytesOf i n
  | 0, m, n => by simp [bytesOf]
  | i + 1, m, n => by
    rw [← Nat.add_assoc, bytesOf, bytesOf_back i m (n / 256), bytesOf, List.append_assoc, Nat.div_div_eq_div_mul, Nat.pow_succ, Nat.mul_comm]
end Frame
namespace Go.Proofs.Ytlnfjddacafpgaa
open Go Go.RowKit Go.Shelf

set_option maxHeartbeats 1000000 in
theorem refRight_any (e a k : Int) (s : ByteArray) (w : World) :
    Calls Try.prog 35 #[frameV e a k s] w fun x w' => x = .returned (.bool (Frame.right e a k s.data.toList)) ∧ Below w.heap.size w w' := by
  go_enter Try.func35, Try.ntmps35
  have hs : s.data.toList.length = s.size := by simp
  have HS := Lib.hid hs; clear hs
  go_wp2
  all_goals go_ret
  all_goals exact ⟨congrArg (fun b => Ending.returned (Value.bool b)) (by unfold Frame.right; rw [HS.out]; first | (symm; rw [decide_eq_false_iff_not]; omega) | (rw [decide_eq_decide]; omega)), (Below.refl _ w).alloc (Nat.le_refl _) _⟩

theorem one_byte (b : UInt8) (w : World) : (convert 30 9 (.slice (some ⟨w.heap.size, 0, none⟩) 1 1)).run Try.prog (w.alloc (.cells #[.int .u8 (b.toNat : Int)] 5)) =
    .ok (.string ⟨#[b]⟩) (w.alloc (.cells #[.int .u8 (b.toNat : Int)] 5)) := by
  have := run_convert_bytes_back (P := Try.prog) (w.alloc (.cells #[.int .u8 (b.toNat : Int)] 5)) 30 9 5 ⟨w.heap.size, 0, none⟩ 1 [b] Try.underlying30 Try.underlying5 Try.underlying9 (fun j hj => by
    obtain rfl : j = 0 := by simpa using hj
    exact cell_of_row _ w.heap.size 0 #[.int .u8 (b.toNat : Int)] 5 (0, 0) (World.alloc_heap_new w _))
  exact this

set_option maxHeartbeats 2000000 in
theorem refBytes_any (n many : Nat) (hn : n ≤ 9223372036854775807) (hm : many ≤ 100) (w : World) :
    Calls Try.prog 36 #[.int .i64 (n : Int), .int .i64 (many : Int)] w fun x w' => x = .returned (.string ⟨(Frame.bytesOf many n).toArray⟩) ∧ Below w.heap.size w w' := by
  go_enter Try.func36, Try.ntmps36
  go_wp2
  go_loopw [0, 5, 6] (fun v0 v5 v6 wr => ∃ i : Nat, i ≤ many ∧ v6 = .int .i64 (i : Int) ∧ v5 = .string ⟨(Frame.bytesOf i n).toArray⟩ ∧ v0 = .int .i64 ((n / 256 ^ i : Nat) : Int) ∧ Below w.heap.size w wr) (fun _ _ v6 _ => many - (intOf v6).toNat)
  case atStart => exact ⟨0, Nat.zero_le _, rfl, rfl, by simp, Below.refl _ _⟩
  case round =>
    obtain ⟨i, hi, rfl, rfl, rfl, hB⟩ := hrel
    by_cases hlt : i < many
    · have hq : n / 256 ^ i ≤ 9223372036854775807 := Nat.le_trans (Nat.div_le_self _ _) hn
      have hq2 : n / 256 ^ (i + 1) = n / 256 ^ i / 256 := by rw [Nat.pow_succ, Nat.div_div_eq_div_mul]
      have hb2 : Frame.bytesOf (i + 1) n = UInt8.ofNat (n / 256 ^ i % 256) :: Frame.bytesOf i n := by
        rw [Nat.add_comm, Frame.bytesOf_back]; rfl
      have hl := Frame.bytesOf_length i n
      have hz : (⟨(Frame.bytesOf i n).toArray⟩ : ByteArray).size ≤ 100 := by
        have : (⟨(Frame.bytesOf i n).toArray⟩ : ByteArray).size = (Frame.bytesOf i n).length := List.size_toArray
        omega
      generalize n / 256 ^ i = q at hq hq2 hb2 ⊢
      have hc : (q : Int) % 256 = ((UInt8.ofNat (q % 256)).toNat : Int) := by rw [Frame.ofNat_toNat (Nat.mod_lt _ (by decide))]; omega
      generalize UInt8.ofNat (q % 256) = b at hc hb2
      have hjoin : ({ data := #[b] } : ByteArray) ++ (⟨(Frame.bytesOf i n).toArray⟩ : ByteArray) = ⟨(Frame.bytesOf (i + 1) n).toArray⟩ := by
        rw [hb2]; apply ByteArray.ext; simp
      have hcv := one_byte b wr
      have HQ := Lib.hid hq2
      clear hq2 hb2 hl
      generalize (⟨(Frame.bytesOf i n).toArray⟩ : ByteArray) = S at hjoin hz ⊢
      go_wp2
      exact ⟨⟨i + 1, by omega, by go_num, rfl, by rw [HQ.out]; simp, hB.alloc hB.size _⟩, by simp [intOf]; omega⟩
    · obtain rfl : i = many := by omega
      go_wp2
      go_ret
      exact ⟨rfl, hB⟩

theorem i64_xor_nat (a b : Nat) (ha : a < 4294967296) (hb : b < 4294967296) : bits .xor .i64 (a : Int) (b : Int) = ((a ^^^ b : Nat) : Int) := by
  have hx : a ^^^ b < 2 ^ 32 := Nat.xor_lt_two_pow (by omega) (by omega)
  show IntKind.i64.wrap ((BitVec.ofInt 64 (a : Int) ^^^ BitVec.ofInt 64 (b : Int)).toNat : Int) = _
  rw [BitVec.toNat_xor, ofInt_u64 a (by omega), ofInt_u64 b (by omega)]
  exact IntWalk.i64_in _ (by omega)

set_option maxHeartbeats 2000000 in
theorem refSum_any (s : ByteArray) (hs : s.size ≤ 9223372036854775807) (w : World) :
    Calls Try.prog 37 #[.string s] w fun x w' => x = .returned (.int .i64 (Wire.crc s.data.toList : Int)) ∧ w = w' := by
  go_enter Try.func37, Try.ntmps37
  go_wp2
  go_loop [3, 4] (fun v3 v4 => ∃ k : Nat, k ≤ s.size ∧ v4 = .int .i64 (k : Int) ∧ v3 = .int .i64 (Wire.state 4294967295 (s.data.toList.take k) : Int)) (fun _ v => s.size - (intOf v).toNat)
  case atStart => exact ⟨0, Nat.zero_le _, rfl, rfl⟩
  case round =>
    obtain ⟨k, hk, rfl, rfl⟩ := hrel
    have hlt32 := Wire.state_lt (c := 4294967295) (by decide) (s.data.toList.take k)
    by_cases hlt : k < s.size
    · have hkk : (s.data.toList.take (k + 1)) = s.data.toList.take k ++ [s[k]] := by
        rw [List.take_succ_eq_append_getElem (by simpa using hlt)]; rfl
      have hfin : Wire.state 4294967295 (s.data.toList.take (k + 1)) = Wire.turns 8 (Wire.state 4294967295 (s.data.toList.take k) ^^^ s[k].toNat) := by
        rw [hkk, Wire.state_snoc]; rfl
      generalize Wire.state 4294967295 (s.data.toList.take k) = c at hlt32 hfin ⊢
      have hsk : s[k].toNat < 256 := s[k].toNat_lt
      have hx := i64_xor_nat c s[k].toNat hlt32 (by omega)
      have hc2 := Wire.xor_byte_lt hlt32 s[k]
      generalize c ^^^ s[k].toNat = d at hx hc2 hfin
      have HF := Lib.hid hfin
      clear hfin hkk
      go_wp2
      go_loop [3, 5] (fun v3 v5 => ∃ m : Nat, m ≤ 8 ∧ v5 = .int .i64 (m : Int) ∧ v3 = .int .i64 (Wire.turns m d : Int)) (fun _ v => 8 - (intOf v).toNat)
      case atStart => exact ⟨0, by omega, rfl, rfl⟩
      case round =>
        obtain ⟨m, hm, rfl, rfl⟩ := hrel
        have hmlt := Wire.turns_lt hc2 m
        clear hx
        by_cases hm8 : m < 8
        · have ht : Wire.turns (m + 1) d = Wire.turn (Wire.turns m d) := rfl
          have HT := Lib.hid ht
          clear ht
          generalize Wire.turns m d = t at hmlt HT ⊢
          by_cases h : t % 2 = 1
          · have hp : ((t : Int) % 2 == 1) = true := by rw [beq_iff_eq]; omega
            have hx2 := i64_xor_nat (t / 2) 3988292384 (by omega) (by omega)
            rw [show ((t / 2 : Nat) : Int) = (t : Int) / 2 from by omega] at hx2
            have hx3 : bits .xor .i64 ((t : Int) / 2) 3988292384 = ((Wire.turn t : Nat) : Int) := by rw [Wire.turn, if_pos h]; exact hx2
            have HH := Lib.hid h
            clear h hx2
            go_wp2
            go_round
            case rel => exact ⟨m + 1, by omega, by go_num, by rw [HT.out]⟩
            case measure => simp [intOf]; omega
          · have hp : ((t : Int) % 2 == 1) = false := by rw [beq_eq_false_iff_ne]; omega
            have hx3 : (t : Int) / 2 = ((Wire.turn t : Nat) : Int) := by rw [Wire.turn, if_neg h]; omega
            have HX3 := Lib.hid hx3
            have HH := Lib.hid h
            clear h hx3
            go_wp2
            go_round
            case rel => exact ⟨m + 1, by omega, by go_num, by rw [HT.out, HX3.out]⟩
            case measure => simp [intOf]; omega
        · obtain rfl : m = 8 := by omega
          rw [← HF.out]
          go_wp2
          go_round
          case rel => exact ⟨k + 1, by omega, by go_num, rfl⟩
          case measure => simp [intOf]; omega
    · obtain rfl : k = s.size := by omega
      have hfin : Wire.crc s.data.toList = Wire.state 4294967295 (s.data.toList.take s.size) ^^^ 4294967295 := by
        unfold Wire.crc
        rw [List.take_of_length_le (by simp)]
      have hx := i64_xor_nat _ 4294967295 hlt32 (by omega)
      rw [← hfin] at hx
      have HX := Lib.hid hx
      clear hx hfin
      go_wp2
      go_ret
      exact ⟨congrArg (fun b => Ending.returned (Value.int .i64 b)) HX.out, rfl⟩
end Go.Proofs.Ytlnfjddacafpgaa

/- The walk of WireSums. -/
import Derived.Test.YtibnjcoaehnpmaaDoorWireTurned
namespace Go.Proofs.YtibnjcoaehnpmaaDoor
open Go Go.RowKit Go.Shelf Go.Sort

theorem bytes_size (l : List UInt8) : (⟨l.toArray⟩ : ByteArray).size = l.length := List.size_toArray

theorem i64_xor_sum (a b : Nat) (ha : a < 4294967296) (hb : b < 4294967296) : bits .xor .i64 (a : Int) (b : Int) = ((a ^^^ b : Nat) : Int) := by
  have hx : a ^^^ b < 4294967296 := Wire.xor_lt ha hb
  show IntKind.i64.wrap ((BitVec.ofInt 64 (a : Int) ^^^ BitVec.ofInt 64 (b : Int)).toNat : Int) = _
  rw [BitVec.toNat_xor, ofInt_u64 a (by omega), ofInt_u64 b (by omega), IntKind.wrap_i64]
  omega

set_option maxRecDepth 100000 in
set_option maxHeartbeats 4000000 in
theorem wireSums_walk (s t u : ByteArray) (hs : s.size ≤ maxLen) (ht : t.size ≤ maxLen) (hu : u.size ≤ maxLen) (ea : Addr) (w : World) (hE : errLies ea w) :
    Calls Tryd.prog 5 #[.string s, .string t, .string u] w fun e w' => e = .returned (.bool true) ∧ Below w.heap.size w w' := by
  unfold maxLen at hs ht hu
  go_enter Tryd.func5, Tryd.ntmps5
  go_wp2_with fail
  refine (shown_any ea w hE).mono ?_
  rintro e w1 ⟨rfl, hB⟩
  go_wp2_with fail
  all_goals (refine (sum_any _ (by first | omega | (simp; omega)) _).mono ?_; rintro e w2 ⟨rfl, hB'⟩; replace hB := hB.trans (hB'.mono hB.size); clear hB')
  all_goals (generalize hca : Wire.crc _ = ca; have la : ca < 4294967296 := hca ▸ Wire.crc_lt _; have HA := Lib.hid hca; clear hca)
  all_goals go_wp2_with fail
  all_goals (refine (sum_any _ (by first | omega | (simp; omega)) _).mono ?_; rintro e w3 ⟨rfl, hB'⟩; replace hB := hB.trans (hB'.mono hB.size); clear hB')
  all_goals (generalize hcb : Wire.crc _ = cb; have lb : cb < 4294967296 := hcb ▸ Wire.crc_lt _; have HB := Lib.hid hcb; clear hcb)
  all_goals have hx1 := i64_xor_sum ca cb la lb
  all_goals have lab := Wire.xor_lt la lb
  all_goals go_wp2_with fail
  all_goals (refine (sum_any _ (by first | omega | (simp; omega)) _).mono ?_; rintro e w4 ⟨rfl, hB'⟩; replace hB := hB.trans (hB'.mono hB.size); clear hB')
  all_goals (generalize hcc : Wire.crc _ = cc; have lc : cc < 4294967296 := hcc ▸ Wire.crc_lt _; have HC := Lib.hid hcc; clear hcc)
  all_goals have hx2 := i64_xor_sum (ca ^^^ cb) cc lab lc
  all_goals go_wp2_with fail
  all_goals (refine (turned_any _ _ (by first | omega | (simp; omega)) (by first | omega | (simp; omega)) _).mono ?_; rintro e w5 ⟨rfl, hB'⟩; replace hB := hB.trans (hB'.mono hB.size); clear hB')
  all_goals go_wp2_with fail
  all_goals (refine (turned_any _ _ (by simp [Wire.xors, bytes_size]; omega) (by simp [Wire.xors, bytes_size]; omega) _).mono ?_; rintro e w6 ⟨rfl, hB'⟩; replace hB := hB.trans (hB'.mono hB.size); clear hB')
  all_goals go_wp2_with fail
  all_goals (refine (sum_any _ (by simp [Wire.xors, bytes_size]; omega) _).mono ?_; rintro e w7 ⟨rfl, hB'⟩; replace hB := hB.trans (hB'.mono hB.size); clear hB')
  all_goals (generalize hcd : Wire.crc _ = cd; have hd : cd = ca ^^^ cb ^^^ cc := by rw [← hcd, ← HA.out, ← HB.out, ← HC.out, ← Wire.crc_xor3 _ _ _ (by simp; omega) (by simp; omega)]; simp)
  all_goals (clear hcd; subst hd)
  all_goals go_wp2_with fail
  all_goals go_ret
  all_goals exact ⟨rfl, hB⟩
end Go.Proofs.YtibnjcoaehnpmaaDoor

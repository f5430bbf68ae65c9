/- morainelaw03.pick; moraineref03.Sign. -/
import Derived.Test.YtmijlcilnaeppaaGreatDoorBun1
import Derived.Test.YtmijlcilnaeppaaGreatDoorBun8
set_option linter.unusedSimpArgs false
set_option linter.unusedVariables false
namespace Go.Proofs.YtmijlcilnaeppaaGreatDoor
open Go Go.RowKit Go.Shelf

set_option maxHeartbeats 1000000 in
theorem pick_any (c n : Int) (h0 : -9223372036854775808 ≤ c) (h1 : c ≤ 9223372036854775807) (hn : 0 < n) (hn2 : n ≤ 9223372036854775807) (w : World) :
    Calls Tryz.prog 29 #[.int .i64 c, .int .i64 n] w fun e w' => e = .returned (.int .i64 (pickI c n)) ∧ w = w' := by
  unfold pickI
  by_cases h : c < 0
  · rw [if_pos h]
    have e1 : IntKind.i64.wrap (c + 1) = c + 1 := IntWalk.i64_in _ (by omega)
    have e2 : IntKind.i64.wrap (-(c + 1)) = -(c + 1) := IntWalk.i64_in _ (by omega)
    have e3 : (-(c + 1)).tmod n = (-(c + 1)) % n := Int.tmod_eq_emod_of_nonneg (by omega)
    have e4 : (n == 0) = false := by rw [beq_eq_false_iff_ne]; omega
    go_enter Tryz.func29, Tryz.ntmps29
    go_wp2_with fail
    go_ret
    exact ⟨rfl, rfl⟩
  · rw [if_neg h]
    have h2 : 0 ≤ c := by omega
    have e3 : c.tmod n = c % n := Int.tmod_eq_emod_of_nonneg (by omega)
    have e4 : (n == 0) = false := by rw [beq_eq_false_iff_ne]; omega
    go_enter Tryz.func29, Tryz.ntmps29
    go_wp2_with fail
    go_ret
    exact ⟨rfl, rfl⟩

theorem getD_at (s : ByteArray) (k : Nat) (h : k < s.size) : s.data.toList.getD k 0 = s[k] := by
  have h' : k < s.data.toList.length := by simpa using h
  rw [List.getD_eq_getElem?_getD, List.getElem?_eq_getElem h']
  rfl
theorem signL_eq (s : ByteArray) (h : 0 < s.size) : signL s.data.toList = signN s.size (s.data.toList.getD 0 0).toNat (s.data.toList.getD 1 0).toNat (s.data.toList.getD 2 0).toNat (s.data.toList.getD 3 0).toNat := by
  unfold signL
  have hl : s.data.toList.length = s.size := by simp
  rw [if_neg (fun e => by rw [e] at hl; simp at hl; omega), hl]
theorem signL_empty (s : ByteArray) (h : s.size = 0) : signL s.data.toList = 0 := by
  unfold signL
  rw [if_pos (List.eq_nil_of_length_eq_zero (by simpa using h))]
end Go.Proofs.YtmijlcilnaeppaaGreatDoor

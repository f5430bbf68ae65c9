/- moraineref03.Sign, some classes of first bytes. -/
import Derived.Test.YtmijlcilnaeppaaGreatDoorRefSignHZ
set_option linter.unusedSimpArgs false
set_option linter.unusedVariables false
namespace Go.Proofs.YtmijlcilnaeppaaGreatDoor
open Go Go.RowKit Go.Shelf

set_option maxHeartbeats 4000000 in
set_option maxRecDepth 100000 in
theorem sign_c3_high (s : ByteArray) (hs : s.size ≤ 9223372036854775807) (h0 : 0 < s.size) (hl : 224 ≤ (s[0].toNat : Int)) (hu : (s[0].toNat : Int) ≤ 224) (hn : 3 ≤ s.size) (hb : (191 < (s[1].toNat : Int))) (w : World) :
    Calls Tryz.prog 69 #[.string s] w fun e w' => e = .returned (.int .i64 (signL s.data.toList : Nat)) ∧ w = w' := by
  have hb0 : (s.data.toList.getD 0 0).toNat = s[0].toNat := by rw [getD_at s 0 h0]
  have hx0 : (s[0].toNat : Int) ≤ 255 := by have := (s[0]'h0).toNat_lt; omega
  have hz : ((s.size : Int) == 0) = false := by rw [beq_eq_false_iff_ne]; omega
  have t0 : decide ((s[0].toNat : Int) < 128) = false := decide_eq_false (by omega)
  have t1 : decide ((194 : Int) ≤ (s[0].toNat : Int)) = true := decide_eq_true (by omega)
  have t2 : decide ((s[0].toNat : Int) ≤ 223) = false := decide_eq_false (by omega)
  have t3 : decide ((224 : Int) ≤ (s[0].toNat : Int)) = true := decide_eq_true (by omega)
  have t4 : decide ((s[0].toNat : Int) ≤ 239) = true := decide_eq_true (by omega)
  have t5 : decide ((240 : Int) ≤ (s[0].toNat : Int)) = false := decide_eq_false (by omega)
  have t6 : ((s[0].toNat : Int) == 224) = true := by rw [beq_iff_eq]; omega
  have t7 : ((s[0].toNat : Int) == 237) = false := by rw [beq_eq_false_iff_ne]; omega
  have t8 : ((s[0].toNat : Int) == 240) = false := by rw [beq_eq_false_iff_ne]; omega
  have t9 : ((s[0].toNat : Int) == 244) = false := by rw [beq_eq_false_iff_ne]; omega
  have hb1 : (s.data.toList.getD 1 0).toNat = s[1].toNat := by rw [getD_at s 1 (by omega)]
  have hv : signL s.data.toList = 0 := by
    rw [signL_eq s h0, hb0, hb1]
    unfold signN
    repeat' split
    all_goals omega
  rw [hv]
  have d : decide ((s.size : Int) < 3) = false := decide_eq_false (by omega)
  have d' : decide (s.size < 3) = false := decide_eq_false (by omega)
  have hs1 : 1 < s.size := by omega
  have hx1 : (s[1].toNat : Int) ≤ 255 := by have := (s[1]'hs1).toNat_lt; omega
  have d1 : decide ((s[1].toNat : Int) < 160) = false := decide_eq_false (by omega)
  have d2 : decide ((191 : Int) < (s[1].toNat : Int)) = true := decide_eq_true hb
  clear hv hb0 hb1 hl hu hb hn
  go_enter Tryz.func69, Tryz.ntmps69
  go_wp2_with fail
  go_ret
  exact ⟨rfl, rfl⟩

set_option maxHeartbeats 4000000 in
set_option maxRecDepth 100000 in
theorem sign_c3_loop (s : ByteArray) (hs : s.size ≤ 9223372036854775807) (h0 : 0 < s.size) (hl : 224 ≤ (s[0].toNat : Int)) (hu : (s[0].toNat : Int) ≤ 224) (hn : 3 ≤ s.size) (hb1 : 160 ≤ (s[1].toNat : Int)) (hb2 : (s[1].toNat : Int) ≤ 191) (w : World) :
    Calls Tryz.prog 69 #[.string s] w fun e w' => e = .returned (.int .i64 (signL s.data.toList : Nat)) ∧ w = w' := by
  have hb0 : (s.data.toList.getD 0 0).toNat = s[0].toNat := by rw [getD_at s 0 h0]
  have hx0 : (s[0].toNat : Int) ≤ 255 := by have := (s[0]'h0).toNat_lt; omega
  have hz : ((s.size : Int) == 0) = false := by rw [beq_eq_false_iff_ne]; omega
  have t0 : decide ((s[0].toNat : Int) < 128) = false := decide_eq_false (by omega)
  have t1 : decide ((194 : Int) ≤ (s[0].toNat : Int)) = true := decide_eq_true (by omega)
  have t2 : decide ((s[0].toNat : Int) ≤ 223) = false := decide_eq_false (by omega)
  have t3 : decide ((224 : Int) ≤ (s[0].toNat : Int)) = true := decide_eq_true (by omega)
  have t4 : decide ((s[0].toNat : Int) ≤ 239) = true := decide_eq_true (by omega)
  have t5 : decide ((240 : Int) ≤ (s[0].toNat : Int)) = false := decide_eq_false (by omega)
  have t6 : ((s[0].toNat : Int) == 224) = true := by rw [beq_iff_eq]; omega
  have t7 : ((s[0].toNat : Int) == 237) = false := by rw [beq_eq_false_iff_ne]; omega
  have t8 : ((s[0].toNat : Int) == 240) = false := by rw [beq_eq_false_iff_ne]; omega
  have t9 : ((s[0].toNat : Int) == 244) = false := by rw [beq_eq_false_iff_ne]; omega
  have hg1 : (s.data.toList.getD 1 0).toNat = s[1].toNat := by rw [getD_at s 1 (by omega)]
  have hvok : (∀ k, 2 ≤ k → k < 3 → 128 ≤ (s.data.toList.getD k 0).toNat ∧ (s.data.toList.getD k 0).toNat ≤ 191) → signL s.data.toList = 3 := by
    intro h
    have h2 := h 2
    have h3 := h 3
    rw [signL_eq s h0, hb0, hg1]
    unfold signN
    repeat' split
    all_goals omega
  have hvno : ∀ k, 2 ≤ k → k < 3 → ¬ (128 ≤ (s.data.toList.getD k 0).toNat ∧ (s.data.toList.getD k 0).toNat ≤ 191) → signL s.data.toList = 0 := by
    intro k k2 kn h
    have hk : k = 2 ∨ k = 3 := by omega
    rw [signL_eq s h0, hb0, hg1]
    unfold signN
    rcases hk with rfl | rfl
    all_goals repeat' split
    all_goals omega
  generalize hr : signL s.data.toList = res at hvok hvno ⊢
  have HOK := Lib.hid hvok
  have HNO := Lib.hid hvno
  have d : decide ((s.size : Int) < 3) = false := decide_eq_false (by omega)
  have d' : decide (s.size < 3) = false := decide_eq_false (by omega)
  have hs1 : 1 < s.size := by omega
  have hx1 : (s[1].toNat : Int) ≤ 255 := by have := (s[1]'hs1).toNat_lt; omega
  have d1 : decide ((s[1].toNat : Int) < 160) = false := decide_eq_false (by omega)
  have d2 : decide ((191 : Int) < (s[1].toNat : Int)) = false := decide_eq_false (by omega)
  clear hvok hvno hb0 hg1 hr hl hu hb1 hb2
  go_enter Tryz.func69, Tryz.ntmps69
  go_wp2_with fail
  go_loopw [7] (fun i wr => ∃ k : Nat, 2 ≤ k ∧ k ≤ 3 ∧ i = .int .i64 (k : Int) ∧ (∀ m, 2 ≤ m → m < k → 128 ≤ (s.data.toList.getD m 0).toNat ∧ (s.data.toList.getD m 0).toNat ≤ 191) ∧ w = wr) (fun i _ => 3 - (intOf i).toNat)
  case atStart => exact ⟨2, by omega, by omega, rfl, fun m a b => by omega, rfl⟩
  case round =>
    obtain ⟨k, hk2, hkn, rfl, hall, rfl⟩ := hrel
    have HALL := Lib.hid hall
    clear hall
    by_cases hlt : k < 3
    · have hks : k < s.size := by omega
      have hgk : (s.data.toList.getD k 0).toNat = s[k].toNat := by rw [getD_at s k hks]
      by_cases e1 : (s[k].toNat : Int) < 128
      · have q1 : decide ((s[k].toNat : Int) < 128) = true := decide_eq_true e1
        have hz0 := HNO.out k hk2 hlt (by rw [hgk]; omega)
        have HZ := Lib.hid hz0
        clear hz0 hgk
        go_wp2_with fail
        go_ret
        exact ⟨by rw [HZ.out]; rfl, rfl⟩
      · have q1 : decide ((s[k].toNat : Int) < 128) = false := decide_eq_false e1
        by_cases e2 : 191 < (s[k].toNat : Int)
        · have q2 : decide ((191 : Int) < (s[k].toNat : Int)) = true := decide_eq_true e2
          have hz0 := HNO.out k hk2 hlt (by rw [hgk]; omega)
          have HZ := Lib.hid hz0
          clear hz0 hgk
          go_wp2_with fail
          go_ret
          exact ⟨by rw [HZ.out]; rfl, rfl⟩
        · have q2 : decide ((191 : Int) < (s[k].toNat : Int)) = false := decide_eq_false e2
          have hnext : ∀ m, 2 ≤ m → m < k + 1 → 128 ≤ (s.data.toList.getD m 0).toNat ∧ (s.data.toList.getD m 0).toNat ≤ 191 := by
            intro m m2 mk
            by_cases e : m = k
            · subst e; rw [hgk]; omega
            · exact HALL.out m m2 (by omega)
          have HN := Lib.hid hnext
          clear hnext hgk
          go_wp2_with fail
          exact ⟨⟨k + 1, by omega, by omega, by go_num, HN.out, by trivial⟩, by simp [intOf]; omega⟩
    · obtain rfl : k = 3 := by omega
      have hz0 := HOK.out HALL.out
      have HZ := Lib.hid hz0
      clear hz0
      go_wp2_with fail
      go_ret
      exact ⟨by rw [HZ.out]; rfl, rfl⟩

set_option maxHeartbeats 4000000 in
set_option maxRecDepth 100000 in
theorem sign_c4_short (s : ByteArray) (hs : s.size ≤ 9223372036854775807) (h0 : 0 < s.size) (hl : 225 ≤ (s[0].toNat : Int)) (hu : (s[0].toNat : Int) ≤ 236) (hn : s.size < 3) (w : World) :
    Calls Tryz.prog 69 #[.string s] w fun e w' => e = .returned (.int .i64 (signL s.data.toList : Nat)) ∧ w = w' := by
  have hb0 : (s.data.toList.getD 0 0).toNat = s[0].toNat := by rw [getD_at s 0 h0]
  have hx0 : (s[0].toNat : Int) ≤ 255 := by have := (s[0]'h0).toNat_lt; omega
  have hz : ((s.size : Int) == 0) = false := by rw [beq_eq_false_iff_ne]; omega
  have t0 : decide ((s[0].toNat : Int) < 128) = false := decide_eq_false (by omega)
  have t1 : decide ((194 : Int) ≤ (s[0].toNat : Int)) = true := decide_eq_true (by omega)
  have t2 : decide ((s[0].toNat : Int) ≤ 223) = false := decide_eq_false (by omega)
  have t3 : decide ((224 : Int) ≤ (s[0].toNat : Int)) = true := decide_eq_true (by omega)
  have t4 : decide ((s[0].toNat : Int) ≤ 239) = true := decide_eq_true (by omega)
  have t5 : decide ((240 : Int) ≤ (s[0].toNat : Int)) = false := decide_eq_false (by omega)
  have t6 : ((s[0].toNat : Int) == 224) = false := by rw [beq_eq_false_iff_ne]; omega
  have t7 : ((s[0].toNat : Int) == 237) = false := by rw [beq_eq_false_iff_ne]; omega
  have t8 : ((s[0].toNat : Int) == 240) = false := by rw [beq_eq_false_iff_ne]; omega
  have t9 : ((s[0].toNat : Int) == 244) = false := by rw [beq_eq_false_iff_ne]; omega
  have hv : signL s.data.toList = 0 := by
    rw [signL_eq s h0, hb0]
    unfold signN
    repeat' split
    all_goals omega
  rw [hv]
  have d : decide ((s.size : Int) < 3) = true := decide_eq_true (by omega)
  have d' : decide (s.size < 3) = true := decide_eq_true (by omega)
  clear hv hb0 hl hu
  go_enter Tryz.func69, Tryz.ntmps69
  go_wp2_with fail
  go_ret
  exact ⟨rfl, rfl⟩

set_option maxHeartbeats 4000000 in
set_option maxRecDepth 100000 in
theorem sign_c4_low (s : ByteArray) (hs : s.size ≤ 9223372036854775807) (h0 : 0 < s.size) (hl : 225 ≤ (s[0].toNat : Int)) (hu : (s[0].toNat : Int) ≤ 236) (hn : 3 ≤ s.size) (hb : ((s[1].toNat : Int) < 128)) (w : World) :
    Calls Tryz.prog 69 #[.string s] w fun e w' => e = .returned (.int .i64 (signL s.data.toList : Nat)) ∧ w = w' := by
  have hb0 : (s.data.toList.getD 0 0).toNat = s[0].toNat := by rw [getD_at s 0 h0]
  have hx0 : (s[0].toNat : Int) ≤ 255 := by have := (s[0]'h0).toNat_lt; omega
  have hz : ((s.size : Int) == 0) = false := by rw [beq_eq_false_iff_ne]; omega
  have t0 : decide ((s[0].toNat : Int) < 128) = false := decide_eq_false (by omega)
  have t1 : decide ((194 : Int) ≤ (s[0].toNat : Int)) = true := decide_eq_true (by omega)
  have t2 : decide ((s[0].toNat : Int) ≤ 223) = false := decide_eq_false (by omega)
  have t3 : decide ((224 : Int) ≤ (s[0].toNat : Int)) = true := decide_eq_true (by omega)
  have t4 : decide ((s[0].toNat : Int) ≤ 239) = true := decide_eq_true (by omega)
  have t5 : decide ((240 : Int) ≤ (s[0].toNat : Int)) = false := decide_eq_false (by omega)
  have t6 : ((s[0].toNat : Int) == 224) = false := by rw [beq_eq_false_iff_ne]; omega
  have t7 : ((s[0].toNat : Int) == 237) = false := by rw [beq_eq_false_iff_ne]; omega
  have t8 : ((s[0].toNat : Int) == 240) = false := by rw [beq_eq_false_iff_ne]; omega
  have t9 : ((s[0].toNat : Int) == 244) = false := by rw [beq_eq_false_iff_ne]; omega
  have hb1 : (s.data.toList.getD 1 0).toNat = s[1].toNat := by rw [getD_at s 1 (by omega)]
  have hv : signL s.data.toList = 0 := by
    rw [signL_eq s h0, hb0, hb1]
    unfold signN
    repeat' split
    all_goals omega
  rw [hv]
  have d : decide ((s.size : Int) < 3) = false := decide_eq_false (by omega)
  have d' : decide (s.size < 3) = false := decide_eq_false (by omega)
  have hs1 : 1 < s.size := by omega
  have hx1 : (s[1].toNat : Int) ≤ 255 := by have := (s[1]'hs1).toNat_lt; omega
  have d1 : decide ((s[1].toNat : Int) < 128) = true := decide_eq_true hb
  clear hv hb0 hb1 hl hu hb hn
  go_enter Tryz.func69, Tryz.ntmps69
  go_wp2_with fail
  go_ret
  exact ⟨rfl, rfl⟩

set_option maxHeartbeats 4000000 in
set_option maxRecDepth 100000 in
theorem sign_c4_high (s : ByteArray) (hs : s.size ≤ 9223372036854775807) (h0 : 0 < s.size) (hl : 225 ≤ (s[0].toNat : Int)) (hu : (s[0].toNat : Int) ≤ 236) (hn : 3 ≤ s.size) (hb : (191 < (s[1].toNat : Int))) (w : World) :
    Calls Tryz.prog 69 #[.string s] w fun e w' => e = .returned (.int .i64 (signL s.data.toList : Nat)) ∧ w = w' := by
  have hb0 : (s.data.toList.getD 0 0).toNat = s[0].toNat := by rw [getD_at s 0 h0]
  have hx0 : (s[0].toNat : Int) ≤ 255 := by have := (s[0]'h0).toNat_lt; omega
  have hz : ((s.size : Int) == 0) = false := by rw [beq_eq_false_iff_ne]; omega
  have t0 : decide ((s[0].toNat : Int) < 128) = false := decide_eq_false (by omega)
  have t1 : decide ((194 : Int) ≤ (s[0].toNat : Int)) = true := decide_eq_true (by omega)
  have t2 : decide ((s[0].toNat : Int) ≤ 223) = false := decide_eq_false (by omega)
  have t3 : decide ((224 : Int) ≤ (s[0].toNat : Int)) = true := decide_eq_true (by omega)
  have t4 : decide ((s[0].toNat : Int) ≤ 239) = true := decide_eq_true (by omega)
  have t5 : decide ((240 : Int) ≤ (s[0].toNat : Int)) = false := decide_eq_false (by omega)
  have t6 : ((s[0].toNat : Int) == 224) = false := by rw [beq_eq_false_iff_ne]; omega
  have t7 : ((s[0].toNat : Int) == 237) = false := by rw [beq_eq_false_iff_ne]; omega
  have t8 : ((s[0].toNat : Int) == 240) = false := by rw [beq_eq_false_iff_ne]; omega
  have t9 : ((s[0].toNat : Int) == 244) = false := by rw [beq_eq_false_iff_ne]; omega
  have hb1 : (s.data.toList.getD 1 0).toNat = s[1].toNat := by rw [getD_at s 1 (by omega)]
  have hv : signL s.data.toList = 0 := by
    rw [signL_eq s h0, hb0, hb1]
    unfold signN
    repeat' split
    all_goals omega
  rw [hv]
  have d : decide ((s.size : Int) < 3) = false := decide_eq_false (by omega)
  have d' : decide (s.size < 3) = false := decide_eq_false (by omega)
  have hs1 : 1 < s.size := by omega
  have hx1 : (s[1].toNat : Int) ≤ 255 := by have := (s[1]'hs1).toNat_lt; omega
  have d1 : decide ((s[1].toNat : Int) < 128) = false := decide_eq_false (by omega)
  have d2 : decide ((191 : Int) < (s[1].toNat : Int)) = true := decide_eq_true hb
  clear hv hb0 hb1 hl hu hb hn
  go_enter Tryz.func69, Tryz.ntmps69
  go_wp2_with fail
  go_ret
  exact ⟨rfl, rfl⟩

set_option maxHeartbeats 4000000 in
set_option maxRecDepth 100000 in
theorem sign_c4_loop (s : ByteArray) (hs : s.size ≤ 9223372036854775807) (h0 : 0 < s.size) (hl : 225 ≤ (s[0].toNat : Int)) (hu : (s[0].toNat : Int) ≤ 236) (hn : 3 ≤ s.size) (hb1 : 128 ≤ (s[1].toNat : Int)) (hb2 : (s[1].toNat : Int) ≤ 191) (w : World) :
    Calls Tryz.prog 69 #[.string s] w fun e w' => e = .returned (.int .i64 (signL s.data.toList : Nat)) ∧ w = w' := by
  have hb0 : (s.data.toList.getD 0 0).toNat = s[0].toNat := by rw [getD_at s 0 h0]
  have hx0 : (s[0].toNat : Int) ≤ 255 := by have := (s[0]'h0).toNat_lt; omega
  have hz : ((s.size : Int) == 0) = false := by rw [beq_eq_false_iff_ne]; omega
  have t0 : decide ((s[0].toNat : Int) < 128) = false := decide_eq_false (by omega)
  have t1 : decide ((194 : Int) ≤ (s[0].toNat : Int)) = true := decide_eq_true (by omega)
  have t2 : decide ((s[0].toNat : Int) ≤ 223) = false := decide_eq_false (by omega)
  have t3 : decide ((224 : Int) ≤ (s[0].toNat : Int)) = true := decide_eq_true (by omega)
  have t4 : decide ((s[0].toNat : Int) ≤ 239) = true := decide_eq_true (by omega)
  have t5 : decide ((240 : Int) ≤ (s[0].toNat : Int)) = false := decide_eq_false (by omega)
  have t6 : ((s[0].toNat : Int) == 224) = false := by rw [beq_eq_false_iff_ne]; omega
  have t7 : ((s[0].toNat : Int) == 237) = false := by rw [beq_eq_false_iff_ne]; omega
  have t8 : ((s[0].toNat : Int) == 240) = false := by rw [beq_eq_false_iff_ne]; omega
  have t9 : ((s[0].toNat : Int) == 244) = false := by rw [beq_eq_false_iff_ne]; omega
  have hg1 : (s.data.toList.getD 1 0).toNat = s[1].toNat := by rw [getD_at s 1 (by omega)]
  have hvok : (∀ k, 2 ≤ k → k < 3 → 128 ≤ (s.data.toList.getD k 0).toNat ∧ (s.data.toList.getD k 0).toNat ≤ 191) → signL s.data.toList = 3 := by
    intro h
    have h2 := h 2
    have h3 := h 3
    rw [signL_eq s h0, hb0, hg1]
    unfold signN
    repeat' split
    all_goals omega
  have hvno : ∀ k, 2 ≤ k → k < 3 → ¬ (128 ≤ (s.data.toList.getD k 0).toNat ∧ (s.data.toList.getD k 0).toNat ≤ 191) → signL s.data.toList = 0 := by
    intro k k2 kn h
    have hk : k = 2 ∨ k = 3 := by omega
    rw [signL_eq s h0, hb0, hg1]
    unfold signN
    rcases hk with rfl | rfl
    all_goals repeat' split
    all_goals omega
  generalize hr : signL s.data.toList = res at hvok hvno ⊢
  have HOK := Lib.hid hvok
  have HNO := Lib.hid hvno
  have d : decide ((s.size : Int) < 3) = false := decide_eq_false (by omega)
  have d' : decide (s.size < 3) = false := decide_eq_false (by omega)
  have hs1 : 1 < s.size := by omega
  have hx1 : (s[1].toNat : Int) ≤ 255 := by have := (s[1]'hs1).toNat_lt; omega
  have d1 : decide ((s[1].toNat : Int) < 128) = false := decide_eq_false (by omega)
  have d2 : decide ((191 : Int) < (s[1].toNat : Int)) = false := decide_eq_false (by omega)
  clear hvok hvno hb0 hg1 hr hl hu hb1 hb2
  go_enter Tryz.func69, Tryz.ntmps69
  go_wp2_with fail
  go_loopw [7] (fun i wr => ∃ k : Nat, 2 ≤ k ∧ k ≤ 3 ∧ i = .int .i64 (k : Int) ∧ (∀ m, 2 ≤ m → m < k → 128 ≤ (s.data.toList.getD m 0).toNat ∧ (s.data.toList.getD m 0).toNat ≤ 191) ∧ w = wr) (fun i _ => 3 - (intOf i).toNat)
  case atStart => exact ⟨2, by omega, by omega, rfl, fun m a b => by omega, rfl⟩
  case round =>
    obtain ⟨k, hk2, hkn, rfl, hall, rfl⟩ := hrel
    have HALL := Lib.hid hall
    clear hall
    by_cases hlt : k < 3
    · have hks : k < s.size := by omega
      have hgk : (s.data.toList.getD k 0).toNat = s[k].toNat := by rw [getD_at s k hks]
      by_cases e1 : (s[k].toNat : Int) < 128
      · have q1 : decide ((s[k].toNat : Int) < 128) = true := decide_eq_true e1
        have hz0 := HNO.out k hk2 hlt (by rw [hgk]; omega)
        have HZ := Lib.hid hz0
        clear hz0 hgk
        go_wp2_with fail
        go_ret
        exact ⟨by rw [HZ.out]; rfl, rfl⟩
      · have q1 : decide ((s[k].toNat : Int) < 128) = false := decide_eq_false e1
        by_cases e2 : 191 < (s[k].toNat : Int)
        · have q2 : decide ((191 : Int) < (s[k].toNat : Int)) = true := decide_eq_true e2
          have hz0 := HNO.out k hk2 hlt (by rw [hgk]; omega)
          have HZ := Lib.hid hz0
          clear hz0 hgk
          go_wp2_with fail
          go_ret
          exact ⟨by rw [HZ.out]; rfl, rfl⟩
        · have q2 : decide ((191 : Int) < (s[k].toNat : Int)) = false := decide_eq_false e2
          have hnext : ∀ m, 2 ≤ m → m < k + 1 → 128 ≤ (s.data.toList.getD m 0).toNat ∧ (s.data.toList.getD m 0).toNat ≤ 191 := by
            intro m m2 mk
            by_cases e : m = k
            · subst e; rw [hgk]; omega
            · exact HALL.out m m2 (by omega)
          have HN := Lib.hid hnext
          clear hnext hgk
          go_wp2_with fail
          exact ⟨⟨k + 1, by omega, by omega, by go_num, HN.out, by trivial⟩, by simp [intOf]; omega⟩
    · obtain rfl : k = 3 := by omega
      have hz0 := HOK.out HALL.out
      have HZ := Lib.hid hz0
      clear hz0
      go_wp2_with fail
      go_ret
      exact ⟨by rw [HZ.out]; rfl, rfl⟩

set_option maxHeartbeats 4000000 in
set_option maxRecDepth 100000 in
theorem sign_c5_short (s : ByteArray) (hs : s.size ≤ 9223372036854775807) (h0 : 0 < s.size) (hl : 237 ≤ (s[0].toNat : Int)) (hu : (s[0].toNat : Int) ≤ 237) (hn : s.size < 3) (w : World) :
    Calls Tryz.prog 69 #[.string s] w fun e w' => e = .returned (.int .i64 (signL s.data.toList : Nat)) ∧ w = w' := by
  have hb0 : (s.data.toList.getD 0 0).toNat = s[0].toNat := by rw [getD_at s 0 h0]
  have hx0 : (s[0].toNat : Int) ≤ 255 := by have := (s[0]'h0).toNat_lt; omega
  have hz : ((s.size : Int) == 0) = false := by rw [beq_eq_false_iff_ne]; omega
  have t0 : decide ((s[0].toNat : Int) < 128) = false := decide_eq_false (by omega)
  have t1 : decide ((194 : Int) ≤ (s[0].toNat : Int)) = true := decide_eq_true (by omega)
  have t2 : decide ((s[0].toNat : Int) ≤ 223) = false := decide_eq_false (by omega)
  have t3 : decide ((224 : Int) ≤ (s[0].toNat : Int)) = true := decide_eq_true (by omega)
  have t4 : decide ((s[0].toNat : Int) ≤ 239) = true := decide_eq_true (by omega)
  have t5 : decide ((240 : Int) ≤ (s[0].toNat : Int)) = false := decide_eq_false (by omega)
  have t6 : ((s[0].toNat : Int) == 224) = false := by rw [beq_eq_false_iff_ne]; omega
  have t7 : ((s[0].toNat : Int) == 237) = true := by rw [beq_iff_eq]; omega
  have t8 : ((s[0].toNat : Int) == 240) = false := by rw [beq_eq_false_iff_ne]; omega
  have t9 : ((s[0].toNat : Int) == 244) = false := by rw [beq_eq_false_iff_ne]; omega
  have hv : signL s.data.toList = 0 := by
    rw [signL_eq s h0, hb0]
    unfold signN
    repeat' split
    all_goals omega
  rw [hv]
  have d : decide ((s.size : Int) < 3) = true := decide_eq_true (by omega)
  have d' : decide (s.size < 3) = true := decide_eq_true (by omega)
  clear hv hb0 hl hu
  go_enter Tryz.func69, Tryz.ntmps69
  go_wp2_with fail
  go_ret
  exact ⟨rfl, rfl⟩

set_option maxHeartbeats 4000000 in
set_option maxRecDepth 100000 in
theorem sign_c5_low (s : ByteArray) (hs : s.size ≤ 9223372036854775807) (h0 : 0 < s.size) (hl : 237 ≤ (s[0].toNat : Int)) (hu : (s[0].toNat : Int) ≤ 237) (hn : 3 ≤ s.size) (hb : ((s[1].toNat : Int) < 128)) (w : World) :
    Calls Tryz.prog 69 #[.string s] w fun e w' => e = .returned (.int .i64 (signL s.data.toList : Nat)) ∧ w = w' := by
  have hb0 : (s.data.toList.getD 0 0).toNat = s[0].toNat := by rw [getD_at s 0 h0]
  have hx0 : (s[0].toNat : Int) ≤ 255 := by have := (s[0]'h0).toNat_lt; omega
  have hz : ((s.size : Int) == 0) = false := by rw [beq_eq_false_iff_ne]; omega
  have t0 : decide ((s[0].toNat : Int) < 128) = false := decide_eq_false (by omega)
  have t1 : decide ((194 : Int) ≤ (s[0].toNat : Int)) = true := decide_eq_true (by omega)
  have t2 : decide ((s[0].toNat : Int) ≤ 223) = false := decide_eq_false (by omega)
  have t3 : decide ((224 : Int) ≤ (s[0].toNat : Int)) = true := decide_eq_true (by omega)
  have t4 : decide ((s[0].toNat : Int) ≤ 239) = true := decide_eq_true (by omega)
  have t5 : decide ((240 : Int) ≤ (s[0].toNat : Int)) = false := decide_eq_false (by omega)
  have t6 : ((s[0].toNat : Int) == 224) = false := by rw [beq_eq_false_iff_ne]; omega
  have t7 : ((s[0].toNat : Int) == 237) = true := by rw [beq_iff_eq]; omega
  have t8 : ((s[0].toNat : Int) == 240) = false := by rw [beq_eq_false_iff_ne]; omega
  have t9 : ((s[0].toNat : Int) == 244) = false := by rw [beq_eq_false_iff_ne]; omega
  have hb1 : (s.data.toList.getD 1 0).toNat = s[1].toNat := by rw [getD_at s 1 (by omega)]
  have hv : signL s.data.toList = 0 := by
    rw [signL_eq s h0, hb0, hb1]
    unfold signN
    repeat' split
    all_goals omega
  rw [hv]
  have d : decide ((s.size : Int) < 3) = false := decide_eq_false (by omega)
  have d' : decide (s.size < 3) = false := decide_eq_false (by omega)
  have hs1 : 1 < s.size := by omega
  have hx1 : (s[1].toNat : Int) ≤ 255 := by have := (s[1]'hs1).toNat_lt; omega
  have d1 : decide ((s[1].toNat : Int) < 128) = true := decide_eq_true hb
  clear hv hb0 hb1 hl hu hb hn
  go_enter Tryz.func69, Tryz.ntmps69
  go_wp2_with fail
  go_ret
  exact ⟨rfl, rfl⟩

set_option maxHeartbeats 4000000 in
set_option maxRecDepth 100000 in
theorem sign_c5_high (s : ByteArray) (hs : s.size ≤ 9223372036854775807) (h0 : 0 < s.size) (hl : 237 ≤ (s[0].toNat : Int)) (hu : (s[0].toNat : Int) ≤ 237) (hn : 3 ≤ s.size) (hb : (159 < (s[1].toNat : Int))) (w : World) :
    Calls Tryz.prog 69 #[.string s] w fun e w' => e = .returned (.int .i64 (signL s.data.toList : Nat)) ∧ w = w' := by
  have hb0 : (s.data.toList.getD 0 0).toNat = s[0].toNat := by rw [getD_at s 0 h0]
  have hx0 : (s[0].toNat : Int) ≤ 255 := by have := (s[0]'h0).toNat_lt; omega
  have hz : ((s.size : Int) == 0) = false := by rw [beq_eq_false_iff_ne]; omega
  have t0 : decide ((s[0].toNat : Int) < 128) = false := decide_eq_false (by omega)
  have t1 : decide ((194 : Int) ≤ (s[0].toNat : Int)) = true := decide_eq_true (by omega)
  have t2 : decide ((s[0].toNat : Int) ≤ 223) = false := decide_eq_false (by omega)
  have t3 : decide ((224 : Int) ≤ (s[0].toNat : Int)) = true := decide_eq_true (by omega)
  have t4 : decide ((s[0].toNat : Int) ≤ 239) = true := decide_eq_true (by omega)
  have t5 : decide ((240 : Int) ≤ (s[0].toNat : Int)) = false := decide_eq_false (by omega)
  have t6 : ((s[0].toNat : Int) == 224) = false := by rw [beq_eq_false_iff_ne]; omega
  have t7 : ((s[0].toNat : Int) == 237) = true := by rw [beq_iff_eq]; omega
  have t8 : ((s[0].toNat : Int) == 240) = false := by rw [beq_eq_false_iff_ne]; omega
  have t9 : ((s[0].toNat : Int) == 244) = false := by rw [beq_eq_false_iff_ne]; omega
  have hb1 : (s.data.toList.getD 1 0).toNat = s[1].toNat := by rw [getD_at s 1 (by omega)]
  have hv : signL s.data.toList = 0 := by
    rw [signL_eq s h0, hb0, hb1]
    unfold signN
    repeat' split
    all_goals omega
  rw [hv]
  have d : decide ((s.size : Int) < 3) = false := decide_eq_false (by omega)
  have d' : decide (s.size < 3) = false := decide_eq_false (by omega)
  have hs1 : 1 < s.size := by omega
  have hx1 : (s[1].toNat : Int) ≤ 255 := by have := (s[1]'hs1).toNat_lt; omega
  have d1 : decide ((s[1].toNat : Int) < 128) = false := decide_eq_false (by omega)
  have d2 : decide ((159 : Int) < (s[1].toNat : Int)) = true := decide_eq_true hb
  clear hv hb0 hb1 hl hu hb hn
  go_enter Tryz.func69, Tryz.ntmps69
  go_wp2_with fail
  go_ret
  exact ⟨rfl, rfl⟩
end Go.Proofs.YtmijlcilnaeppaaGreatDoor

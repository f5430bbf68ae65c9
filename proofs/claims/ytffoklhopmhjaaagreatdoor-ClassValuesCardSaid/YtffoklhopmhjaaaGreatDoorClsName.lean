/- words.Letter, words.Digit, words.InName, words.Name. -/
import Derived.Test.YtffoklhopmhjaaaGreatDoorClsDef
import Derived.Test.YtffoklhopmhjaaaGreatDoorVBox
set_option linter.unusedSimpArgs false
set_option linter.unusedVariables false
namespace Go.Proofs.YtffoklhopmhjaaaGreatDoor
open Go Go.RowKit Go.Shelf

set_option maxHeartbeats 1000000 in
set_option maxRecDepth 100000 in
theorem letter_any (c : UInt8) (w : World) :
    Calls Tryz.prog 76 #[.int .u8 (c.toNat : Int)] w fun e w' => e = .returned (.bool (isLet c)) ∧ w = w' := by
  have hb : ∀ r, r = isLet c → ∀ (e : Ending) (w' : World), (e = .returned (.bool r) ∧ w = w') → (e = .returned (.bool (isLet c)) ∧ w = w') := fun r hr e w' h => by rw [← hr]; exact h
  by_cases h1 : (97 : Int) ≤ (c.toNat : Int)
  · by_cases h2 : (c.toNat : Int) ≤ 122
    · refine Calls.mono ?_ (hb true (decide_eq_true ⟨by omega, by omega⟩).symm)
      clear hb
      go_enter Tryz.func76, Tryz.ntmps76
      go_wp2_with fail
      go_ret
      exact ⟨rfl, rfl⟩
    · refine Calls.mono ?_ (hb false (decide_eq_false (by omega)).symm)
      clear hb
      go_enter Tryz.func76, Tryz.ntmps76
      go_wp2_with fail
      go_ret
      exact ⟨rfl, rfl⟩
  · refine Calls.mono ?_ (hb false (decide_eq_false (by omega)).symm)
    clear hb
    go_enter Tryz.func76, Tryz.ntmps76
    go_wp2_with fail
    go_ret
    exact ⟨rfl, rfl⟩

def isDg (c : UInt8) : Bool := decide (48 ≤ c.toNat ∧ c.toNat ≤ 57)
set_option maxHeartbeats 1000000 in
set_option maxRecDepth 100000 in
theorem dig1_any (c : UInt8) (w : World) :
    Calls Tryz.prog 86 #[.int .u8 (c.toNat : Int)] w fun e w' => e = .returned (.bool (isDg c)) ∧ w = w' := by
  have hb : ∀ r, r = isDg c → ∀ (e : Ending) (w' : World), (e = .returned (.bool r) ∧ w = w') → (e = .returned (.bool (isDg c)) ∧ w = w') := fun r hr e w' h => by rw [← hr]; exact h
  by_cases h1 : (48 : Int) ≤ (c.toNat : Int)
  · by_cases h2 : (c.toNat : Int) ≤ 57
    · refine Calls.mono ?_ (hb true (decide_eq_true ⟨by omega, by omega⟩).symm)
      clear hb
      go_enter Tryz.func86, Tryz.ntmps86
      go_wp2_with fail
      go_ret
      exact ⟨rfl, rfl⟩
    · refine Calls.mono ?_ (hb false (decide_eq_false (by omega)).symm)
      clear hb
      go_enter Tryz.func86, Tryz.ntmps86
      go_wp2_with fail
      go_ret
      exact ⟨rfl, rfl⟩
  · refine Calls.mono ?_ (hb false (decide_eq_false (by omega)).symm)
    clear hb
    go_enter Tryz.func86, Tryz.ntmps86
    go_wp2_with fail
    go_ret
    exact ⟨rfl, rfl⟩

theorem inNm_split (c : UInt8) : inNm c = (isLet c || (isDg c || decide (c.toNat = 95))) := by
  unfold inNm isLet isDg
  by_cases h1 : 97 ≤ c.toNat ∧ c.toNat ≤ 122
  · rw [decide_eq_true (.inl h1), decide_eq_true h1]; rfl
  · rw [decide_eq_false h1]
    by_cases h2 : 48 ≤ c.toNat ∧ c.toNat ≤ 57
    · rw [decide_eq_true (.inr (.inl h2)), decide_eq_true h2]; rfl
    · rw [decide_eq_false h2]
      by_cases h3 : c.toNat = 95
      · rw [decide_eq_true (.inr (.inr h3)), decide_eq_true h3]; rfl
      · rw [decide_eq_false h3, decide_eq_false (by rintro (h | h | h); exact h1 h; exact h2 h; exact h3 h)]; rfl
set_option maxHeartbeats 1000000 in
set_option maxRecDepth 100000 in
theorem inName_any (c : UInt8) (w : World) :
    Calls Tryz.prog 77 #[.int .u8 (c.toNat : Int)] w fun e w' => e = .returned (.bool (inNm c)) ∧ w = w' := by
  rw [inNm_split]
  have hl := fun W => letter_any c W
  have hd := fun W => dig1_any c W
  generalize isLet c = l at hl ⊢
  generalize isDg c = d at hd ⊢
  have HL := Lib.hid hl
  have HD := Lib.hid hd
  clear hl hd
  cases l with
  | true =>
    go_enter Tryz.func77, Tryz.ntmps77
    go_wp2_with fail
    refine (HL.out _).mono ?_
    rintro e W1 ⟨rfl, rfl⟩
    go_wp2_with fail
    go_ret
    exact ⟨rfl, rfl⟩
  | false =>
    cases d with
    | true =>
      go_enter Tryz.func77, Tryz.ntmps77
      go_wp2_with fail
      refine (HL.out _).mono ?_
      rintro e W1 ⟨rfl, rfl⟩
      go_wp2_with fail
      refine (HD.out _).mono ?_
      rintro e W2 ⟨rfl, rfl⟩
      go_wp2_with fail
      go_ret
      exact ⟨rfl, rfl⟩
    | false =>
      by_cases h3 : c.toNat = 95
      · have d3 : ((c.toNat : Int) == 95) = true := by rw [beq_iff_eq]; omega
        have e3 : decide (c.toNat = 95) = true := decide_eq_true h3
        rw [e3]
        clear h3 e3
        go_enter Tryz.func77, Tryz.ntmps77
        go_wp2_with fail
        refine (HL.out _).mono ?_
        rintro e W1 ⟨rfl, rfl⟩
        go_wp2_with fail
        refine (HD.out _).mono ?_
        rintro e W2 ⟨rfl, rfl⟩
        go_wp2_with fail
        go_ret
        exact ⟨rfl, rfl⟩
      · have d3 : ((c.toNat : Int) == 95) = false := by rw [beq_eq_false_iff_ne]; omega
        have e3 : decide (c.toNat = 95) = false := decide_eq_false h3
        rw [e3]
        clear h3 e3
        go_enter Tryz.func77, Tryz.ntmps77
        go_wp2_with fail
        refine (HL.out _).mono ?_
        rintro e W1 ⟨rfl, rfl⟩
        go_wp2_with fail
        refine (HD.out _).mono ?_
        rintro e W2 ⟨rfl, rfl⟩
        go_wp2_with fail
        go_ret
        exact ⟨rfl, rfl⟩

theorem nmOk_by {l r : List UInt8} {c : UInt8} (e : l = c :: r) (h : 1 ≤ l.length ∧ l.length ≤ 20) : nmOk l = (isLet c && l.all inNm) := by
  subst e
  unfold nmOk
  rw [decide_eq_true h]
  rfl
theorem nm_cons {s : ByteArray} (h : 1 ≤ s.size) : s.data.toList = (s[0]'h) :: s.data.toList.drop 1 := by
  have hl : 0 < s.data.toList.length := by rw [nm_size]; omega
  have := List.drop_eq_getElem_cons hl
  rw [List.drop_zero] at this
  exact this
theorem all_step {s : ByteArray} {k : Nat} (h : k < s.size) (ha : (s.data.toList.take k).all inNm = true) (hx : inNm s[k] = true) : (s.data.toList.take (k + 1)).all inNm = true := by
  have h' : k < s.data.toList.length := by rw [nm_size]; exact h
  rw [List.take_succ_eq_append_getElem h', List.all_append, ha]
  have : s.data.toList[k] = s[k] := rfl
  rw [this]
  simp [hx]
theorem all_stop {s : ByteArray} {k : Nat} (h : k < s.size) (hx : inNm s[k] = false) : s.data.toList.all inNm = false := by
  have h' : k < s.data.toList.length := by rw [nm_size]; exact h
  rw [List.all_eq_false]
  exact ⟨s.data.toList[k], List.getElem_mem h', by rw [show s.data.toList[k] = s[k] from rfl, hx]; decide⟩

set_option maxHeartbeats 2000000 in
set_option maxRecDepth 100000 in
theorem name_any (s : ByteArray) (hs : s.size ≤ 9223372036854775807) (w : World) :
    Calls Tryz.prog 51 #[.string s] w fun e w' => e = .returned (.bool (nmOk s.data.toList)) ∧ w = w' := by
  have hb : ∀ r, r = nmOk s.data.toList → ∀ (e : Ending) (w' : World), (e = .returned (.bool r) ∧ w = w') → (e = .returned (.bool (nmOk s.data.toList)) ∧ w = w') := fun r hr e w' h => by rw [← hr]; exact h
  by_cases h1 : 1 ≤ s.size
  · have d1 : decide ((s.size : Int) < 1) = false := decide_eq_false (by omega)
    have d1' : ¬ (s.size : Int) < 1 := by omega
    have d1n : decide (s.size < 1) = false := decide_eq_false (by omega)
    by_cases h2 : s.size ≤ 20
    · have d2 : decide ((20 : Int) < (s.size : Int)) = false := decide_eq_false (by omega)
      have d2' : ¬ (20 : Int) < (s.size : Int) := by omega
      have d0 : (0 : Int) < (s.size : Int) := by omega
      have hok : nmOk s.data.toList = (isLet (s[0]'h1) && s.data.toList.all inNm) := nmOk_by (nm_cons h1) (by rw [nm_size]; exact ⟨h1, h2⟩)
      have hl := fun W => letter_any (s[0]'h1) W
      have hstep := fun k (h : k < s.size) => all_step (s := s) h
      have hstop := fun k (h : k < s.size) => all_stop (s := s) h
      have hall : (s.data.toList.take s.size).all inNm = s.data.toList.all inNm := by rw [List.take_of_length_le (by rw [nm_size]; exact Nat.le_refl _)]
      generalize isLet (s[0]'h1) = l at hl hok
      have HL := Lib.hid hl
      have HSTEP := Lib.hid hstep
      have HSTOP := Lib.hid hstop
      have HALL := Lib.hid hall
      clear hl hstep hstop hall
      cases l with
      | false =>
        refine Calls.mono ?_ (hb false (by rw [hok]; rfl))
        clear hb hok
        go_enter Tryz.func51, Tryz.ntmps51
        go_wp2_with fail
        refine (HL.out _).mono ?_
        rintro e W1 ⟨rfl, rfl⟩
        go_wp2_with fail
        go_ret
        exact ⟨rfl, rfl⟩
      | true =>
        have hok' : nmOk s.data.toList = s.data.toList.all inNm := by rw [hok]; rfl
        have HOK := Lib.hid hok'
        have HBB := Lib.hid hb
        clear hb hok hok'
        refine Calls.mono ?_ (HBB.out _ HOK.out.symm)
        clear HBB
        generalize hr : s.data.toList.all inNm = r
        have HR := Lib.hid hr
        clear hr
        go_enter Tryz.func51, Tryz.ntmps51
        go_wp2_with fail
        refine (HL.out _).mono ?_
        rintro e W1 ⟨rfl, rfl⟩
        go_wp2_with fail
        go_loopw [20] (fun i wr => ∃ k : Nat, k ≤ s.size ∧ i = .int .i64 (k : Int) ∧ (s.data.toList.take k).all inNm = true ∧ w = wr) (fun i _ => s.size - (intOf i).toNat)
        case atStart => exact ⟨0, by omega, rfl, rfl, rfl⟩
        case round =>
          obtain ⟨k, hk, rfl, he, rfl⟩ := hrel
          have HE := Lib.hid he; clear he
          by_cases hlt : k < s.size
          · have e1 : decide ((k : Int) < (s.size : Int)) = true := decide_eq_true (by omega)
            have e1' : (k : Int) < (s.size : Int) := by omega
            have e0 : (0 : Int) ≤ (k : Int) := by omega
            have hstep := fun h => HSTEP.out k hlt HE.out h
            have hstop := fun h => HSTOP.out k hlt h
            have hc := fun W => inName_any (s[k]'hlt) W
            have hx : ((s[k]'hlt).toNat : Int) ≤ 255 := by have := (s[k]'hlt).toNat_lt; omega
            generalize inNm (s[k]'hlt) = q at hstep hstop hc
            have HSP := Lib.hid hstep
            have HST := Lib.hid hstop
            have HC := Lib.hid hc
            clear hstep hstop hc
            cases q with
            | true =>
              go_wp2_with (go_at_call 77; refine (HC.out _).mono ?_; rintro e w1 ⟨rfl, rfl⟩)
              exact ⟨⟨k + 1, by omega, by go_num, HSP.out (by trivial), by trivial⟩, by simp [intOf]; omega⟩
            | false =>
              have hz : r = false := by rw [← HR.out]; exact HST.out (by trivial)
              have HZ := Lib.hid hz
              clear hz
              go_wp2_with (go_at_call 77; refine (HC.out _).mono ?_; rintro e w1 ⟨rfl, rfl⟩)
              go_ret
              exact ⟨by rw [HZ.out]; rfl, by trivial⟩
          · obtain rfl : k = s.size := by omega
            have e1 : decide ((s.size : Int) < (s.size : Int)) = false := decide_eq_false (by omega)
            have hz : r = true := by rw [← HR.out, ← HALL.out]; exact HE.out
            have HZ := Lib.hid hz
            clear hz
            go_wp2_with fail
            go_ret
            exact ⟨by rw [HZ.out]; rfl, by trivial⟩
    · have d2 : decide ((20 : Int) < (s.size : Int)) = true := decide_eq_true (by omega)
      have d2' : (20 : Int) < (s.size : Int) := by omega
      refine Calls.mono ?_ (hb false (by unfold nmOk; rw [decide_eq_false (by rw [nm_size]; omega)]; rfl))
      clear hb
      go_enter Tryz.func51, Tryz.ntmps51
      go_wp2_with fail
      go_ret
      exact ⟨rfl, rfl⟩
  · have d1 : decide ((s.size : Int) < 1) = true := decide_eq_true (by omega)
    have d1' : (s.size : Int) < 1 := by omega
    refine Calls.mono ?_ (hb false (by unfold nmOk; rw [decide_eq_false (by rw [nm_size]; omega)]; rfl))
    clear hb
    go_enter Tryz.func51, Tryz.ntmps51
    go_wp2_with fail
    go_ret
    exact ⟨rfl, rfl⟩
end Go.Proofs.YtffoklhopmhjaaaGreatDoor

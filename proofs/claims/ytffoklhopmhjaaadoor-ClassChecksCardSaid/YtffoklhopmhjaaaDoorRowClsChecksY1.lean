/- Texts put together: ClsRefN, ClsRefR, ClsVals, Phase, ClsValOf, ClsSets, ClsValOfL, ClsBackLaw, CopyA, ClsOnce, ClsCut, RefFits, ClsRefC, Flat, ClsValsOf, ClsFitM, ClsChkM. -/
import Derived.Test.YtffoklhopmhjaaaDoorClsDef
import Derived.Test.YtffoklhopmhjaaaDoorClsOk
import Derived.Test.YtffoklhopmhjaaaDoorClsTurn
import Derived.Test.YtffoklhopmhjaaaDoorRowClsChecksY0
import Derived.Deep.RegionHeld3
import Derived.IntWalk
import Derived.Deep.AppendLies
import Derived.OwnWalk
import Derived.Laws.OwnMore
import Derived.Test.YtffoklhopmhjaaaDoorOwned
import Derived.Test.YtffoklhopmhjaaaDoorClsSame
import Derived.Laws.AppendOwnNone
import Derived.Test.YtffoklhopmhjaaaDoorLies
import Derived.Deep.CutRange
import Derived.Test.YtffoklhopmhjaaaDoorClsRead
import Derived.Test.YtffoklhopmhjaaaDoorValDef
/- moraineref04.Name, single, RightType. -/
set_option linter.unusedSimpArgs false
set_option linter.unusedVariables false
namespace Go.Proofs.YtffoklhopmhjaaaDoor
open Go Go.RowKit Go.Shelf

/-- may the byte stand there in a name -/
def okAt (c : UInt8) (j : Nat) : Bool := isLet c || (decide (j ≠ 0) && inNm c)
theorem let_in {c : UInt8} (h : isLet c = true) : inNm c = true := by
  unfold isLet at h
  unfold inNm
  exact decide_eq_true (.inl (of_decide_eq_true h))
theorem nmOk_of {l : List UInt8} (h1 : 1 ≤ l.length) (h2 : l.length ≤ 20) (h : ∀ j (hj : j < l.length), okAt l[j] j = true) : nmOk l = true := by
  unfold nmOk
  rw [Bool.and_eq_true, Bool.and_eq_true]
  refine ⟨⟨decide_eq_true ⟨h1, h2⟩, ?_⟩, List.all_eq_true.2 (fun c hc => ?_)⟩
  · match l, h1 with
    | c :: r, _ =>
      have := h 0 (by simp)
      unfold okAt at this
      simpa using this
  · obtain ⟨j, hj, rfl⟩ := List.getElem_of_mem hc
    have := h j hj
    unfold okAt at this
    rw [Bool.or_eq_true, Bool.and_eq_true] at this
    rcases this with h3 | h3
    · exact let_in h3
    · exact h3.2
theorem nmOk_not {l : List UInt8} {j : Nat} (hj : j < l.length) (h : okAt l[j] j = false) : nmOk l = false := by
  unfold okAt at h
  rw [Bool.or_eq_false_iff] at h
  cases hn : nmOk l with
  | false => rfl
  | true =>
    unfold nmOk at hn
    rw [Bool.and_eq_true, Bool.and_eq_true] at hn
    by_cases h0 : j = 0
    · subst h0
      match l, hj with
      | c :: r, _ =>
        have h3 := hn.1.2
        have h4 : isLet c = false := h.1
        have h5 : isLet c = true := h3
        rw [h4] at h5
        cases h5
    · have h3 := List.all_eq_true.1 hn.2 _ (List.getElem_mem hj)
      have h4 : (decide (j ≠ 0) && inNm l[j]) = false := h.2
      rw [show inNm l[j] = true from h3, decide_eq_true h0] at h4
      cases h4
theorem nmOk_long {l : List UInt8} (h : ¬ (1 ≤ l.length ∧ l.length ≤ 20)) : nmOk l = false := by
  unfold nmOk
  rw [decide_eq_false h]; rfl

set_option maxHeartbeats 4000000 in
set_option maxRecDepth 100000 in
theorem rname_any (s : ByteArray) (hs : s.size ≤ 9223372036854775807) (w : World) :
    Calls Tryd.prog 47 #[.string s] w fun e w' => e = .returned (.bool (nmOk s.data.toList)) ∧ w = w' := by
  have hlen : s.data.toList.length = s.size := nm_size s
  have hgood := fun h1 h2 h => nmOk_of (l := s.data.toList) h1 h2 h
  have hbad := fun j hj h => nmOk_not (l := s.data.toList) (j := j) hj h
  have hlong := fun h => nmOk_long (l := s.data.toList) h
  generalize nmOk s.data.toList = r at hgood hbad hlong ⊢
  rw [hlen] at hlong
  have hbad2 : ∀ j (hj : j < s.size), okAt s[j] j = false → r = false := fun j hj h => hbad j (by rw [hlen]; exact hj) h
  have hgood2 : 1 ≤ s.size → s.size ≤ 20 → (∀ j (hj : j < s.size), okAt s[j] j = true) → r = true := fun h1 h2 h => hgood (by rw [hlen]; exact h1) (by rw [hlen]; exact h2) (fun j hj => h j (by rw [hlen] at hj; exact hj))
  have HGOOD := Lib.hid hgood2
  have HBAD := Lib.hid hbad2
  have HLONG := Lib.hid hlong
  clear hgood hbad hlong hbad2 hgood2 hlen
  by_cases h1 : 1 ≤ s.size
  · have d1 : decide ((s.size : Int) < 1) = false := decide_eq_false (by omega)
    have d1' : ¬ (s.size : Int) < 1 := by omega
    by_cases h2 : s.size ≤ 20
    · have d2 : decide ((s.size : Int) > 20) = false := decide_eq_false (by omega)
      have d2' : ¬ (20 : Int) < (s.size : Int) := by omega
      go_enter Tryd.func47, Tryd.ntmps47
      go_wp2_with fail
      go_loopw [3] (fun i wr => ∃ k : Nat, k ≤ s.size ∧ i = .int .i64 (k : Int) ∧ (∀ j (hj : j < s.size), j < k → okAt s[j] j = true) ∧ w = wr) (fun i _ => s.size - (intOf i).toNat)
      case atStart => exact ⟨0, by omega, rfl, fun j _ h => absurd h (by omega), rfl⟩
      case round =>
        obtain ⟨k, hk, rfl, he, rfl⟩ := hrel
        have HE := Lib.hid he
        clear he
        by_cases hlt : k < s.size
        · have e1 : decide ((k : Int) < (s.size : Int)) = true := decide_eq_true (by omega)
          have e1' : (k : Int) < (s.size : Int) := by omega
          have e0 : (0 : Int) ≤ (k : Int) := by omega
          have hb8 : s[k].toNat < 256 := s[k].toNat_lt
          have hbad := HBAD.out k hlt
          have hok : okAt s[k] k = (decide (97 ≤ s[k].toNat ∧ s[k].toNat ≤ 122) || (decide (k ≠ 0) && decide ((97 ≤ s[k].toNat ∧ s[k].toNat ≤ 122) ∨ (48 ≤ s[k].toNat ∧ s[k].toNat ≤ 57) ∨ s[k].toNat = 95))) := rfl
          have hnx : okAt s[k] k = true → ∀ j (hj : j < s.size), j < k + 1 → okAt s[j] j = true := fun h j hj hjk => by
            rcases Nat.lt_or_ge j k with h1 | h1
            · exact HE.out j hj h1
            · have e : j = k := by omega
              subst e; exact h
          generalize okAt s[k] k = q at hbad hok hnx
          have HB := Lib.hid hbad
          have HOK := Lib.hid hok
          have HNX := Lib.hid hnx
          clear hbad hok hnx HE HBAD
          by_cases b1 : 97 ≤ s[k].toNat
          · have a1 : decide ((s[k].toNat : Int) ≥ 97) = true := decide_eq_true (by omega)
            have a1' : (97 : Int) ≤ (s[k].toNat : Int) := by omega
            by_cases b2 : s[k].toNat ≤ 122
            · have a2 : decide ((s[k].toNat : Int) ≤ 122) = true := decide_eq_true (by omega)
              have a2' : (s[k].toNat : Int) ≤ 122 := by omega
              have a3 : decide ((s[k].toNat : Int) ≥ 48) = true := decide_eq_true (by omega)
              have a3' : (48 : Int) ≤ (s[k].toNat : Int) := by omega
              have a4 : decide ((s[k].toNat : Int) ≤ 57) = false := decide_eq_false (by omega)
              have a4' : ¬ (s[k].toNat : Int) ≤ 57 := by omega
              by_cases b5 : s[k].toNat = 95
              · omega
              · have a5 : ((s[k].toNat : Int) == 95) = false := by rw [beq_eq_false_iff_ne]; omega
                have a5' : ¬ (s[k].toNat : Int) = 95 := by omega
                have hz := HNX.out (HOK.out.trans (by simp; omega))
                have HZ := Lib.hid hz
                clear hz 
                go_wp2_with fail
                exact ⟨⟨k + 1, by omega, by go_num, HZ.out, by trivial⟩, by simp [intOf]; omega⟩
            · have a2 : decide ((s[k].toNat : Int) ≤ 122) = false := decide_eq_false (by omega)
              have a2' : ¬ (s[k].toNat : Int) ≤ 122 := by omega
              have a3 : decide ((s[k].toNat : Int) ≥ 48) = true := decide_eq_true (by omega)
              have a3' : (48 : Int) ≤ (s[k].toNat : Int) := by omega
              have a4 : decide ((s[k].toNat : Int) ≤ 57) = false := decide_eq_false (by omega)
              have a4' : ¬ (s[k].toNat : Int) ≤ 57 := by omega
              have a5 : ((s[k].toNat : Int) == 95) = false := by rw [beq_eq_false_iff_ne]; omega
              have a5' : ¬ (s[k].toNat : Int) = 95 := by omega
              by_cases b0 : k = 0
              · have a0 : ((k : Int) == 0) = true := by rw [beq_iff_eq]; omega
                have hz := HB.out (HOK.out.trans (by simp; omega))
                have HZ := Lib.hid hz
                clear hz b0 
                go_wp2_with fail
                go_ret
                exact ⟨by rw [HZ.out] <;> rfl, rfl⟩
              · have a0 : ((k : Int) == 0) = false := by rw [beq_eq_false_iff_ne]; omega
                have a0' : ¬ (k : Int) = 0 := by omega
                have hz := HB.out (HOK.out.trans (by simp; omega))
                have HZ := Lib.hid hz
                clear hz 
                go_wp2_with fail
                go_ret
                exact ⟨by rw [HZ.out] <;> rfl, rfl⟩
          · have a1 : decide ((s[k].toNat : Int) ≥ 97) = false := decide_eq_false (by omega)
            have a1' : ¬ (97 : Int) ≤ (s[k].toNat : Int) := by omega
            by_cases b3 : 48 ≤ s[k].toNat
            · have a3 : decide ((s[k].toNat : Int) ≥ 48) = true := decide_eq_true (by omega)
              have a3' : (48 : Int) ≤ (s[k].toNat : Int) := by omega
              by_cases b4 : s[k].toNat ≤ 57
              · have a4 : decide ((s[k].toNat : Int) ≤ 57) = true := decide_eq_true (by omega)
                have a4' : (s[k].toNat : Int) ≤ 57 := by omega
                have a5 : ((s[k].toNat : Int) == 95) = false := by rw [beq_eq_false_iff_ne]; omega
                have a5' : ¬ (s[k].toNat : Int) = 95 := by omega
                by_cases b0 : k = 0
                · have a0 : ((k : Int) == 0) = true := by rw [beq_iff_eq]; omega
                  have hz := HB.out (HOK.out.trans (by simp; omega))
                  have HZ := Lib.hid hz
                  clear hz b0 
                  go_wp2_with fail
                  go_ret
                  exact ⟨by rw [HZ.out] <;> rfl, rfl⟩
                · have a0 : ((k : Int) == 0) = false := by rw [beq_eq_false_iff_ne]; omega
                  have a0' : ¬ (k : Int) = 0 := by omega
                  have hz := HNX.out (HOK.out.trans (by simp; omega))
                  have HZ := Lib.hid hz
                  clear hz 
                  go_wp2_with fail
                  exact ⟨⟨k + 1, by omega, by go_num, HZ.out, by trivial⟩, by simp [intOf]; omega⟩
              · have a4 : decide ((s[k].toNat : Int) ≤ 57) = false := decide_eq_false (by omega)
                have a4' : ¬ (s[k].toNat : Int) ≤ 57 := by omega
                by_cases b5 : s[k].toNat = 95
                · have a5 : ((s[k].toNat : Int) == 95) = true := by rw [beq_iff_eq]; omega
                  by_cases b0 : k = 0
                  · have a0 : ((k : Int) == 0) = true := by rw [beq_iff_eq]; omega
                    have hz := HB.out (HOK.out.trans (by simp; omega))
                    have HZ := Lib.hid hz
                    clear hz b0 b5
                    go_wp2_with fail
                    go_ret
                    exact ⟨by rw [HZ.out] <;> rfl, rfl⟩
                  · have a0 : ((k : Int) == 0) = false := by rw [beq_eq_false_iff_ne]; omega
                    have a0' : ¬ (k : Int) = 0 := by omega
                    have hz := HNX.out (HOK.out.trans (by simp; omega))
                    have HZ := Lib.hid hz
                    clear hz b5
                    go_wp2_with fail
                    exact ⟨⟨k + 1, by omega, by go_num, HZ.out, by trivial⟩, by simp [intOf]; omega⟩
                · have a5 : ((s[k].toNat : Int) == 95) = false := by rw [beq_eq_false_iff_ne]; omega
                  have a5' : ¬ (s[k].toNat : Int) = 95 := by omega
                  by_cases b0 : k = 0
                  · have a0 : ((k : Int) == 0) = true := by rw [beq_iff_eq]; omega
                    have hz := HB.out (HOK.out.trans (by simp; omega))
                    have HZ := Lib.hid hz
                    clear hz b0 
                    go_wp2_with fail
                    go_ret
                    exact ⟨by rw [HZ.out] <;> rfl, rfl⟩
                  · have a0 : ((k : Int) == 0) = false := by rw [beq_eq_false_iff_ne]; omega
                    have a0' : ¬ (k : Int) = 0 := by omega
                    have hz := HB.out (HOK.out.trans (by simp; omega))
                    have HZ := Lib.hid hz
                    clear hz 
                    go_wp2_with fail
                    go_ret
                    exact ⟨by rw [HZ.out] <;> rfl, rfl⟩
            · have a3 : decide ((s[k].toNat : Int) ≥ 48) = false := decide_eq_false (by omega)
              have a3' : ¬ (48 : Int) ≤ (s[k].toNat : Int) := by omega
              have a5 : ((s[k].toNat : Int) == 95) = false := by rw [beq_eq_false_iff_ne]; omega
              have a5' : ¬ (s[k].toNat : Int) = 95 := by omega
              by_cases b0 : k = 0
              · have a0 : ((k : Int) == 0) = true := by rw [beq_iff_eq]; omega
                have hz := HB.out (HOK.out.trans (by simp; omega))
                have HZ := Lib.hid hz
                clear hz b0 
                go_wp2_with fail
                go_ret
                exact ⟨by rw [HZ.out] <;> rfl, rfl⟩
              · have a0 : ((k : Int) == 0) = false := by rw [beq_eq_false_iff_ne]; omega
                have a0' : ¬ (k : Int) = 0 := by omega
                have hz := HB.out (HOK.out.trans (by simp; omega))
                have HZ := Lib.hid hz
                clear hz 
                go_wp2_with fail
                go_ret
                exact ⟨by rw [HZ.out] <;> rfl, rfl⟩
        · obtain rfl : k = s.size := by omega
          have e1 : decide ((s.size : Int) < (s.size : Int)) = false := decide_eq_false (by omega)
          have hz := HGOOD.out h1 h2 (fun j hj => HE.out j hj hj)
          have HZ := Lib.hid hz
          clear hz
          go_wp2_with fail
          go_ret
          exact ⟨by rw [HZ.out] <;> rfl, rfl⟩
    · have d2 : decide ((s.size : Int) > 20) = true := decide_eq_true (by omega)
      have d2' : (20 : Int) < (s.size : Int) := by omega
      have hz := HLONG.out (by omega)
      have HZ := Lib.hid hz
      clear hz
      go_enter Tryd.func47, Tryd.ntmps47
      go_wp2_with fail
      go_ret
      exact ⟨by rw [HZ.out] <;> rfl, rfl⟩
  · have d1 : decide ((s.size : Int) < 1) = true := decide_eq_true (by omega)
    have d1' : (s.size : Int) < 1 := by omega
    have hz := HLONG.out (by omega)
    have HZ := Lib.hid hz
    clear hz h1
    go_enter Tryd.func47, Tryd.ntmps47
    go_wp2_with fail
    go_ret
    exact ⟨by rw [HZ.out] <;> rfl, rfl⟩

def sgB (k : Int) : Bool := decide (1 ≤ k ∧ k ≤ 4)
set_option maxHeartbeats 1000000 in
theorem single_any (k : Int) (w : World) :
    Calls Tryd.prog 62 #[.int .i64 k] w fun e w' => e = .returned (.bool (sgB k)) ∧ w = w' := by
  have hr : ∀ r, r = sgB k → ∀ (e : Ending) (w' : World), (e = .returned (.bool r) ∧ w = w') → (e = .returned (.bool (sgB k)) ∧ w = w') := fun r hr e w' h => by rw [← hr]; exact h
  by_cases h1 : 1 ≤ k
  · have d1 : decide (k ≥ 1) = true := decide_eq_true h1
    by_cases h2 : k ≤ 4
    · have d2 : decide (k ≤ 4) = true := decide_eq_true h2
      refine Calls.mono ?_ (hr true (decide_eq_true ⟨h1, h2⟩).symm)
      clear hr
      go_enter Tryd.func62, Tryd.ntmps62
      go_wp2_with fail
      go_ret
      exact ⟨rfl, rfl⟩
    · have d2 : decide (k ≤ 4) = false := decide_eq_false h2
      refine Calls.mono ?_ (hr false (decide_eq_false (by omega)).symm)
      clear hr
      go_enter Tryd.func62, Tryd.ntmps62
      go_wp2_with fail
      go_ret
      exact ⟨rfl, rfl⟩
  · have d1 : decide (k ≥ 1) = false := decide_eq_false h1
    refine Calls.mono ?_ (hr false (decide_eq_false (by omega)).symm)
    clear hr
    go_enter Tryd.func62, Tryd.ntmps62
    go_wp2_with fail
    go_ret
    exact ⟨rfl, rfl⟩
theorem rtB_sg (k o : Int) : rtB k o = (sgB k && o == 0 || k == 5 && sgB o) := by
  unfold rtB sgB
  by_cases h5 : k = 5
  · subst h5
    rw [if_pos rfl, decide_eq_false (show ¬ ((1 : Int) ≤ 5 ∧ (5 : Int) ≤ 4) by omega)]
    simp
  · rw [if_neg h5, beq_eq_false_iff_ne.2 h5]
    by_cases h0 : o = 0
    · subst h0; simp
    · rw [beq_eq_false_iff_ne.2 h0]; simp [h0]

set_option maxHeartbeats 2000000 in
set_option maxRecDepth 100000 in
theorem crightType_any (k o : Int) (w : World) :
    Calls Tryd.prog 48 #[.agg #[.int .i64 k, .int .i64 o]] w fun e w' => e = .returned (.bool (rtB k o)) ∧ Below w.heap.size w w' := by
  have hB := (Below.refl w.heap.size w).alloc (Nat.le_refl _) (.cells #[.int .i64 k, .int .i64 o] 51)
  obtain ⟨t0, t1⟩ := (TBox.new w k o).facts
  rw [rtB_sg]
  have hk := fun W => single_any k W
  have ho := fun W => single_any o W
  generalize sgB k = x at hk ⊢
  generalize sgB o = y at ho ⊢
  have HK := Lib.hid hk
  have HO := Lib.hid ho
  have HB := Lib.hid hB
  obtain ⟨z, hz⟩ : ∃ z, (o == 0) = z := ⟨_, rfl⟩
  obtain ⟨v, hv⟩ : ∃ v, (k == 5) = v := ⟨_, rfl⟩
  rw [hz, hv]
  clear hk ho hB
  cases x <;> cases z <;> cases v <;>
  · go_enter Tryd.func48, Tryd.ntmps48
    go_wp2_with (first | (go_at_call 62; refine (HK.out _).mono ?_; rintro e w1 ⟨rfl, rfl⟩) | (go_at_call 62; refine (HO.out _).mono ?_; rintro e w1 ⟨rfl, rfl⟩))
    go_ret
    exact ⟨by simp, HB.out⟩
end Go.Proofs.YtffoklhopmhjaaaDoor

/- moraineref04.Right. -/
set_option linter.unusedSimpArgs false
set_option linter.unusedVariables false
namespace Go.Proofs.YtffoklhopmhjaaaDoor
open Go Go.RowKit Go.Shelf

/-- a field's name stands nowhere ahead of it -/
theorem goodAt_new {fs : List Fl} {k : Nat} (h : k < fs.length) (hok : fs[k].ok = true) (hn : ∀ j (hj : j < fs.length), j < k → fs[j].nm.toList ≠ fs[k].nm.toList) : goodAt fs k = true := by
  rw [goodAt_of h, hok, fieldAt_some h rfl (fun j hj => hn j (by omega) hj)]
  simp
theorem goodAt_old {fs : List Fl} {k j : Nat} (h : k < fs.length) (hj : j < fs.length) (hjk : j < k) (he : fs[j].nm.toList = fs[k].nm.toList) : goodAt fs k = false := by
  rw [goodAt_of h]
  cases hf : fieldAt fs fs[k].nm with
  | none => simp
  | some i =>
    have hi : i ≤ j := by
      unfold fieldAt at hf
      obtain ⟨h1, h2, h3⟩ := List.findIdx?_eq_some_iff_getElem.1 hf
      rcases Nat.lt_or_ge j i with h4 | h4
      · have := h3 j h4
        rw [he] at this
        simp at this
      · exact h4
    have hne : (some i == some k) = false := by rw [beq_eq_false_iff_ne]; intro e; have := Option.some.inj e; omega
    rw [hne, Bool.and_false]
theorem ok_bad {cn : ByteArray} {fs : List Fl} {k : Nat} (h : k < fs.length) (hg : fs[k].ok = false) : (Cl.mk cn fs).ok = false := ok_false_at h (by rw [goodAt_of h, hg]; rfl)
theorem mayIx_gt {k o : Int} (h : rtB k o = true) : mayIx k = decide (k ≤ 3) := by
  unfold rtB at h
  unfold mayIx
  have hk : 1 ≤ k ∧ k ≤ 5 := by
    split at h
    · omega
    · have := of_decide_eq_true h; omega
  have hc : k = 1 ∨ k = 2 ∨ k = 3 ∨ k = 4 ∨ k = 5 := by omega
  rcases hc with rfl | rfl | rfl | rfl | rfl <;> rfl

set_option maxHeartbeats 8000000 in
set_option maxRecDepth 100000 in
theorem rclsRight_any (cn : ByteArray) (p : Option Addr) (m c : Nat) (fs : List Fl) (hcn : cn.size ≤ 9223372036854775807) (hff : ∀ f ∈ fs, f.fine) (w : World) (hl : FLies w p m c fs) (hm : m ≤ 9223372036854775807) :
    Calls Tryd.prog 25 #[clV cn p m c] w fun e w' => e = .returned (.bool (Cl.mk cn fs).ok) ∧ Below w.heap.size w w' := by
  obtain ⟨rfl, hL⟩ := hl
  have hb : Below w.heap.size w (w.alloc (.cells #[.string cn, .slice p fs.length c] 27)) := (Below.refl _ _).alloc (Nat.le_refl _) _
  have hC := CBox.new w cn p fs.length c
  have hn := fun W => rname_any cn hcn W
  have hbad1 : nmOk cn.data.toList = false → (Cl.mk cn fs).ok = false := fun h => by unfold Cl.ok; rw [show (Cl.mk cn fs).nm = cn from rfl, h]; rfl
  have hbad2 : ¬ fs.length ≤ 8 → (Cl.mk cn fs).ok = false := fun h => by unfold Cl.ok; rw [show (Cl.mk cn fs).fs = fs from rfl, decide_eq_false h, Bool.and_false]; rfl
  have hbad3 := fun k (h : k < fs.length) hg => ok_bad (cn := cn) h hg
  have hbad4 := fun k j (h : k < fs.length) (hj : j < fs.length) hjk he => ok_false_at (cn := cn) h (goodAt_old h hj hjk he)
  have hgood := fun h1 h2 h => ok_true_of (cn := cn) (fs := fs) h1 h2 h
  generalize (Cl.mk cn fs).ok = r at hbad1 hbad2 hbad3 hbad4 hgood ⊢
  generalize nmOk cn.data.toList = q at hn hbad1 hgood
  have HL := Lib.hid hL
  have HB := Lib.hid hb
  have HC := Lib.hid hC
  have HN := Lib.hid hn
  have HBAD1 := Lib.hid hbad1
  have HBAD2 := Lib.hid hbad2
  have HBAD3 := Lib.hid hbad3
  have HBAD4 := Lib.hid hbad4
  have HGOOD := Lib.hid hgood
  have HFF := Lib.hid hff
  obtain ⟨c0, c1⟩ := hC.facts
  clear hL hb hC hn hbad1 hbad2 hbad3 hbad4 hgood hff
  go_enter Tryd.func25, Tryd.ntmps25
  go_wp2_with fail
  refine (HN.out _).mono ?_
  rintro e W1 ⟨rfl, rfl⟩
  cases q with
  | false =>
    have hz := HBAD1.out rfl
    have HZ := Lib.hid hz
    clear hz
    go_wp2_with fail
    go_ret
    exact ⟨by rw [HZ.out] <;> rfl, HB.out⟩
  | true =>
    by_cases hl8 : fs.length ≤ 8
    · have d8 : decide ((fs.length : Int) > 8) = false := decide_eq_false (by omega)
      have d8' : ¬ (8 : Int) < (fs.length : Int) := by omega
      go_wp2_with fail
      generalize w.alloc (.cells #[.string cn, .slice p fs.length c] 27) = U at HB HC c0 c1 ⊢
      clear c0 c1
      go_loopw [3] (fun i wr => ∃ k : Nat, k ≤ fs.length ∧ i = .int .i64 (k : Int) ∧ (∀ j, j < k → goodAt fs j = true) ∧ Below w.heap.size w wr ∧ CBox wr w.heap.size cn p fs.length c) (fun i _ => fs.length - (intOf i).toNat)
      case atStart => exact ⟨0, by omega, rfl, fun j h => absurd h (by omega), HB.out, HC.out⟩
      case round =>
        obtain ⟨k, hk, rfl, he, hB, hCr⟩ := hrel
        have HE := Lib.hid he; clear he
        obtain ⟨c0, c1⟩ := hCr.facts
        by_cases hlt : k < fs.length
        · have e1 : decide ((k : Int) < (fs.length : Int)) = true := decide_eq_true (by omega)
          have e1' : (k : Int) < (fs.length : Int) := by omega
          have e0 : (0 : Int) ≤ (k : Int) := by omega
          obtain ⟨b, off, rfl, hbb, hc⟩ := HL.out.at (by omega)
          have hcw : ∀ (W : World) (hW : Below w.heap.size w W) (j : Nat) (hj : j < fs.length) (i : Nat) (u : Value), ((fs[j]'hj).cells)[i]? = some u → W.cell? ⟨b, off + j * 4 + i, none⟩ = some u := fun W hW j hj i u hu => by
            rw [hW.cell (p := ⟨b, off + j * 4 + i, none⟩) hbb, Nat.add_assoc]
            exact hc _ _ (flCells_at fs j hj i u hu)
          have hcx := hcw wr hB k hlt
          have hfine := HFF.out _ (List.getElem_mem hlt)
          have hbad := HBAD3.out k hlt
          have hold := fun j hj hjk he => HBAD4.out k j hlt hj hjk he
          have hnew := fun hok h => goodAt_new hlt hok h
          have hnx : goodAt fs k = true → ∀ j, j < k + 1 → goodAt fs j = true := fun h j hj => by
            rcases Nat.lt_or_ge j k with h1 | h1
            · exact HE.out j h1
            · have e : j = k := by omega
              subst e; exact h
          have HCW := Lib.hid hcw
          have hok : fs[k].ok = (nmOk fs[k].nm.data.toList && rtB fs[k].k fs[k].o && (!fs[k].ix || mayIx fs[k].k)) := rfl
          generalize hfk : fs[k]'hlt = f at hcx hfine hbad hold hnew hok
          obtain ⟨fn, fk, fo, fx⟩ := f
          obtain ⟨hf1, hf2, hf3⟩ := hfine
          simp only at hf1 hf2 hf3 hold hnew hok
          have hn1 := fun W => rname_any fn hf1 W
          have hr1 := fun W => crightType_any fk fo W
          have hmx := mayIx_gt (k := fk) (o := fo)
          generalize (Fl.mk fn fk fo fx).ok = fok at hbad hnew hok
          generalize nmOk fn.data.toList = q1 at hn1 hok
          generalize rtB fk fo = q2 at hr1 hok hmx
          generalize mayIx fk = q4 at hok hmx
          have z0 : wr.cell? ⟨b, off + k * 4, none⟩ = some (.string fn) := hcx 0 _ rfl
          have z1 : wr.cell? ⟨b, off + k * 4 + 1, none⟩ = some (.int .i64 fk) := hcx 1 _ rfl
          have z2 : wr.cell? ⟨b, off + k * 4 + 2, none⟩ = some (.int .i64 fo) := hcx 2 _ rfl
          have z3 : wr.cell? ⟨b, off + k * 4 + 3, none⟩ = some (.bool fx) := hcx 3 _ rfl
          have hal : Below wr.heap.size wr (wr.alloc (.cells #[.string fn, .int .i64 fk, .int .i64 fo, .bool fx] 53)) := (Below.refl _ _).alloc (Nat.le_refl _) _
          have HF1 := Lib.hid (FBox.new wr ⟨fn, fk, fo, fx⟩)
          have HC1 := Lib.hid (hCr.below hal)
          have HB1 := Lib.hid (hB.trans (hal.mono hB.size))
          have HOLD := Lib.hid hold
          have HNEW := Lib.hid hnew
          have HBD := Lib.hid hbad
          have HOK := Lib.hid hok
          have HMX := Lib.hid hmx
          have HNX := Lib.hid hnx
          have HN1 := Lib.hid hn1
          have HR1 := Lib.hid hr1
          have HFK := Lib.hid hfk
          clear hcw hcx hc hold hnew hbad hok hmx hnx hn1 hr1 hal hCr hB hfk
          go_upto_region 7 with fail
          generalize wr.alloc (.cells #[.string fn, .int .i64 fk, .int .i64 fo, .bool fx] 53) = V at HF1 HC1 HB1 ⊢
          generalize wr.heap.size = bf at HF1 ⊢
          clear z0 z1 z2 z3 c0 c1
          obtain ⟨y0, y1, y2, y3⟩ := HF1.out.facts
          simp only at y0 y1 y2 y3
          obtain ⟨c0, c1⟩ := HC1.out.facts
          go_wp2_with fail
          refine (HN1.out _).mono ?_
          rintro e W2 ⟨rfl, rfl⟩
          cases q1 with
          | false =>
            have hz := HBD.out (HOK.out.trans (by simp))
            have HZ := Lib.hid hz
            clear hz
            go_wp2_with fail
            go_ret
            exact ⟨by rw [HZ.out] <;> rfl, HB1.out⟩
          | true =>
            go_wp2_with fail
            refine (HR1.out _).mono ?_
            rintro e W3 ⟨rfl, hB3⟩
            have HB3 := Lib.hid (HB1.out.trans (hB3.mono HB1.out.size))
            have HF3 := Lib.hid (HF1.out.below hB3)
            have HC3 := Lib.hid (HC1.out.below hB3)
            clear hB3 HB1 HF1 HC1 y0 y1 y2 y3 c0 c1
            obtain ⟨y0, y1, y2, y3⟩ := HF3.out.facts
            simp only at y0 y1 y2 y3
            obtain ⟨c0, c1⟩ := HC3.out.facts
            cases q2 with
            | false =>
              have hz := HBD.out (HOK.out.trans (by simp))
              have HZ := Lib.hid hz
              clear hz
              go_wp2_with fail
              go_ret
              exact ⟨by rw [HZ.out] <;> rfl, HB3.out⟩
            | true =>
              have hmx := HMX.out rfl
              by_cases hbx : fx = true ∧ ¬ fk ≤ 3
              · obtain ⟨rfl, hk3⟩ := hbx
                have d3 : decide (fk > 3) = true := decide_eq_true (by omega)
                have d3' : (3 : Int) < fk := by omega
                have hz := HBD.out (HOK.out.trans (by rw [hmx, decide_eq_false hk3]; rfl))
                have HZ := Lib.hid hz
                clear hz hmx
                go_wp2_with fail
                go_ret
                exact ⟨by rw [HZ.out] <;> rfl, HB3.out⟩
              · have hfok : fok = true := HOK.out.trans (by
                  rw [hmx]
                  cases fx with
                  | false => rfl
                  | true =>
                    have : fk ≤ 3 := by
                      by_cases h : fk ≤ 3
                      · exact h
                      · exact absurd ⟨rfl, h⟩ hbx
                    rw [decide_eq_true this]; rfl)
                have hgo : (fx = false) ∨ (fx = true ∧ fk ≤ 3) := by
                  cases fx with
                  | false => exact .inl rfl
                  | true =>
                    by_cases h : fk ≤ 3
                    · exact .inr ⟨rfl, h⟩
                    · exact absurd ⟨rfl, h⟩ hbx
                have HFOK := Lib.hid hfok
                have HGO := Lib.hid hgo
                clear hmx hbx hfok hgo
                rcases HGO.out with rfl | ⟨rfl, hk3⟩
                · go_wp2_with fail
                  clear y0 y1 y2 y3 c0 c1
                  go_loopw [5] (fun i wr2 => ∃ j : Nat, j ≤ k ∧ i = .int .i64 (j : Int) ∧ (∀ j' (hj : j' < fs.length), j' < j → fs[j'].nm.toList ≠ fn.toList) ∧ Below w.heap.size w wr2 ∧ CBox wr2 w.heap.size cn (some ⟨b, off, none⟩) fs.length c ∧ FBox wr2 bf ⟨fn, fk, fo, false⟩) (fun i _ => k - (intOf i).toNat)
                  case atStart => exact ⟨0, by omega, rfl, fun j' _ h => absurd h (by omega), HB3.out, HC3.out, HF3.out⟩
                  case round =>
                    obtain ⟨j, hjk, rfl, hnn, hBw, hCw, hFw⟩ := hrel
                    have HNN := Lib.hid hnn
                    have HBw := Lib.hid hBw
                    have HCw := Lib.hid hCw
                    have HFw := Lib.hid hFw
                    clear hnn hBw hCw hFw
                    by_cases hj : j < k
                    · have g1 : decide ((j : Int) < (k : Int)) = true := decide_eq_true (by omega)
                      have g1' : (j : Int) < (k : Int) := by omega
                      have g2 : (j : Int) < (fs.length : Int) := by omega
                      have g0 : (0 : Int) ≤ (j : Int) := by omega
                      have hjl : j < fs.length := by omega
                      have m0 : wr.drew.cell? ⟨b, off + j * 4, none⟩ = some (.string fs[j].nm) := HCW.out wr HBw.out j hjl 0 _ rfl
                      have m1 : wr.drew.cell? ⟨w.heap.size, 1, none⟩ = some (.slice (some ⟨b, off, none⟩) fs.length c) := HCw.out.facts.2
                      have m2 : wr.drew.cell? ⟨bf, 0, none⟩ = some (.string fn) := HFw.out.facts.1
                      have hbd : Below w.heap.size w wr.drew := HBw.out.drew
                      have HBD2 := Lib.hid hbd
                      have hnm := HNN.out
                      have hol := HOLD.out j hjl hj
                      have hnx2 : fs[j].nm.toList ≠ fn.toList → ∀ j' (hj : j' < fs.length), j' < j + 1 → fs[j'].nm.toList ≠ fn.toList := fun h j' h1 h2 => by
                        rcases Nat.lt_or_ge j' j with h3 | h3
                        · exact hnm j' h1 h3
                        · have e : j' = j := by omega
                          subst e; exact h
                      generalize fs[j].nm = gn at m0 hol hnx2
                      have HOL := Lib.hid hol
                      have HNX2 := Lib.hid hnx2
                      clear hbd hnm hol hnx2 HNN
                      by_cases q0 : gn.toList = fn.toList
                      · have hz := HOL.out q0
                        have HZ := Lib.hid hz
                        clear hz
                        go_wp2_with fail
                        go_region
                        go_wp2_with fail
                        go_ret
                        exact ⟨by rw [HZ.out] <;> rfl, HBD2.out⟩
                      · have q1 : (gn.toList == fn.toList) = false := beq_eq_false_iff_ne.2 q0
                        have hz := HNX2.out q0
                        have HZ := Lib.hid hz
                        clear hz
                        go_wp2_with fail
                        go_region
                        go_wp2_with fail
                        all_goals (first | rfl | exact ⟨⟨j + 1, by omega, by go_num, HZ.out, HBD2.out, HCw.out.below (Below.refl _ _).drew, HFw.out.below (Below.refl _ _).drew⟩, by simp [intOf]; omega⟩)
                    · obtain rfl : j = k := by omega
                      have g1 : decide ((j : Int) < (j : Int)) = false := decide_eq_false (by omega)
                      have hz := HNX.out (HNEW.out HFOK.out HNN.out)
                      have HZ := Lib.hid hz
                      clear hz
                      go_wp2_with fail
                      exact ⟨⟨j + 1, by omega, by go_num, HZ.out, HBw.out, HCw.out⟩, by simp [intOf]; omega⟩
                · have d3 : decide (fk > 3) = false := decide_eq_false (by omega)
                  have d3' : ¬ (3 : Int) < fk := by omega
                  go_wp2_with fail
                  clear y0 y1 y2 y3 c0 c1
                  go_loopw [5] (fun i wr2 => ∃ j : Nat, j ≤ k ∧ i = .int .i64 (j : Int) ∧ (∀ j' (hj : j' < fs.length), j' < j → fs[j'].nm.toList ≠ fn.toList) ∧ Below w.heap.size w wr2 ∧ CBox wr2 w.heap.size cn (some ⟨b, off, none⟩) fs.length c ∧ FBox wr2 bf ⟨fn, fk, fo, true⟩) (fun i _ => k - (intOf i).toNat)
                  case atStart => exact ⟨0, by omega, rfl, fun j' _ h => absurd h (by omega), HB3.out, HC3.out, HF3.out⟩
                  case round =>
                    obtain ⟨j, hjk, rfl, hnn, hBw, hCw, hFw⟩ := hrel
                    have HNN := Lib.hid hnn
                    have HBw := Lib.hid hBw
                    have HCw := Lib.hid hCw
                    have HFw := Lib.hid hFw
                    clear hnn hBw hCw hFw
                    by_cases hj : j < k
                    · have g1 : decide ((j : Int) < (k : Int)) = true := decide_eq_true (by omega)
                      have g1' : (j : Int) < (k : Int) := by omega
                      have g2 : (j : Int) < (fs.length : Int) := by omega
                      have g0 : (0 : Int) ≤ (j : Int) := by omega
                      have hjl : j < fs.length := by omega
                      have m0 : wr.drew.cell? ⟨b, off + j * 4, none⟩ = some (.string fs[j].nm) := HCW.out wr HBw.out j hjl 0 _ rfl
                      have m1 : wr.drew.cell? ⟨w.heap.size, 1, none⟩ = some (.slice (some ⟨b, off, none⟩) fs.length c) := HCw.out.facts.2
                      have m2 : wr.drew.cell? ⟨bf, 0, none⟩ = some (.string fn) := HFw.out.facts.1
                      have hbd : Below w.heap.size w wr.drew := HBw.out.drew
                      have HBD2 := Lib.hid hbd
                      have hnm := HNN.out
                      have hol := HOLD.out j hjl hj
                      have hnx2 : fs[j].nm.toList ≠ fn.toList → ∀ j' (hj : j' < fs.length), j' < j + 1 → fs[j'].nm.toList ≠ fn.toList := fun h j' h1 h2 => by
                        rcases Nat.lt_or_ge j' j with h3 | h3
                        · exact hnm j' h1 h3
                        · have e : j' = j := by omega
                          subst e; exact h
                      generalize fs[j].nm = gn at m0 hol hnx2
                      have HOL := Lib.hid hol
                      have HNX2 := Lib.hid hnx2
                      clear hbd hnm hol hnx2 HNN
                      by_cases q0 : gn.toList = fn.toList
                      · have hz := HOL.out q0
                        have HZ := Lib.hid hz
                        clear hz
                        go_wp2_with fail
                        go_region
                        go_wp2_with fail
                        go_ret
                        exact ⟨by rw [HZ.out] <;> rfl, HBD2.out⟩
                      · have q1 : (gn.toList == fn.toList) = false := beq_eq_false_iff_ne.2 q0
                        have hz := HNX2.out q0
                        have HZ := Lib.hid hz
                        clear hz
                        go_wp2_with fail
                        go_region
                        go_wp2_with fail
                        all_goals (first | rfl | exact ⟨⟨j + 1, by omega, by go_num, HZ.out, HBD2.out, HCw.out.below (Below.refl _ _).drew, HFw.out.below (Below.refl _ _).drew⟩, by simp [intOf]; omega⟩)
                    · obtain rfl : j = k := by omega
                      have g1 : decide ((j : Int) < (j : Int)) = false := decide_eq_false (by omega)
                      have hz := HNX.out (HNEW.out HFOK.out HNN.out)
                      have HZ := Lib.hid hz
                      clear hz
                      go_wp2_with fail
                      exact ⟨⟨j + 1, by omega, by go_num, HZ.out, HBw.out, HCw.out⟩, by simp [intOf]; omega⟩
        · obtain rfl : k = fs.length := by omega
          have e1 : decide ((fs.length : Int) < (fs.length : Int)) = false := decide_eq_false (by omega)
          have hz := HGOOD.out (by trivial) hl8 HE.out
          have HZ := Lib.hid hz
          clear hz
          go_wp2_with fail
          go_ret
          exact ⟨by rw [HZ.out] <;> rfl, hB⟩
    · have d8 : decide ((fs.length : Int) > 8) = true := decide_eq_true (by omega)
      have d8' : (8 : Int) < (fs.length : Int) := by omega
      have hz := HBAD2.out hl8
      have HZ := Lib.hid hz
      clear hz
      go_wp2_with fail
      go_ret
      exact ⟨by rw [HZ.out] <;> rfl, HB.out⟩
end Go.Proofs.YtffoklhopmhjaaaDoor

/- Values of a class, of raw numbers: what they are, that they fit, and what fits with one of them turned. -/
set_option linter.unusedSimpArgs false
set_option linter.unusedVariables false
namespace Go.Proofs.YtffoklhopmhjaaaDoor
open Go Go.RowKit Go.Shelf

def vTexts : List (List UInt8) := [[], [97], [98, 99], [195, 169, 116, 195, 169], [97, 32, 98], [122, 122, 32, 116, 111, 112], [48], [45, 55]]
/-- of a raw number, a value that is no list -/
def vFlat (k n many : Int) : V :=
  if k = 1 then .mk 1 (pickI n 41 - 20) ⟨#[]⟩ []
  else if k = 2 then .mk 2 0 (nameIn vTexts (pickI n 8)) []
  else if pickI n 5 = 4 then .mk 0 0 ⟨#[]⟩ []
  else .mk k (1 + pickI n many) ⟨#[]⟩ []
/-- the first of a list -/
def vItems (o n many : Int) (m : Nat) : List V := (List.range m).map (fun i : Nat => vFlat o (n.tdiv 4 + (i : Int)) many)
/-- of a raw number, a value of a type -/
def vOf (k o n many : Int) : V := if k = 5 then .mk 5 0 ⟨#[]⟩ (vItems o n many (pickI n 4).toNat) else vFlat k n many
theorem vItems_len (o n many : Int) (m : Nat) : (vItems o n many m).length = m := by simp [vItems]
theorem vItems_succ (o n many : Int) (m : Nat) : vItems o n many (m + 1) = vItems o n many m ++ [vFlat o (n.tdiv 4 + (m : Int)) many] := by
  unfold vItems
  rw [List.range_succ, List.map_append]; rfl

def textGood (l : List UInt8) : Bool := decide (l.length ≤ 60) && textOk l
theorem vTexts_ok : vTexts.all textGood = true := by decide +kernel
theorem vText_at (i : Int) (h0 : 0 ≤ i) (h1 : i < 8) : (nameIn vTexts i).size ≤ 60 ∧ textOk (nameIn vTexts i).data.toList = true := by
  have hi : i.toNat < vTexts.length := by simp [vTexts]; omega
  have e : vTexts.getD i.toNat [] = vTexts[i.toNat] := by rw [List.getD_eq_getElem?_getD, List.getElem?_eq_getElem hi]; rfl
  have hx := List.all_eq_true.1 vTexts_ok _ (List.getElem_mem hi)
  unfold textGood at hx
  rw [Bool.and_eq_true] at hx
  unfold nameIn
  rw [e]
  refine ⟨?_, hx.2⟩
  have h2 := of_decide_eq_true hx.1
  rw [ba_size]
  exact h2
theorem vFlat_l (k n many : Int) : (vFlat k n many).l = [] := by
  unfold vFlat
  split
  · rfl
  · split
    · rfl
    · split <;> rfl
theorem vFlat_fits {k : Int} (hk : 1 ≤ k ∧ k ≤ 4) (n : Int) {many : Int} (hm : 1 ≤ many ∧ many ≤ 1000) : (vFlat k n many).flatOk = true ∧ fkB (vFlat k n many).k k = true ∧ (vFlat k n many).k ≠ 5 := by
  have hp1 := pickI_bd n 41 (by decide)
  have hp2 := pickI_bd n 8 (by decide)
  have hp3 := pickI_bd n many (by omega)
  unfold vFlat
  by_cases h1 : k = 1
  · subst h1
    rw [if_pos rfl]
    refine ⟨?_, rfl, by show (1 : Int) ≠ 5; decide⟩
    show flatOk 1 (pickI n 41 - 20) ⟨#[]⟩ 0 = true
    unfold flatOk
    rw [if_neg (by decide), if_pos rfl]
    exact decide_eq_true ⟨by omega, rfl, rfl⟩
  · rw [if_neg h1]
    by_cases h2 : k = 2
    · subst h2
      rw [if_pos rfl]
      refine ⟨?_, rfl, by show (2 : Int) ≠ 5; decide⟩
      show flatOk 2 0 (nameIn vTexts (pickI n 8)) 0 = true
      unfold flatOk
      rw [if_neg (by decide), if_neg (by decide), if_pos rfl]
      exact decide_eq_true ⟨rfl, vText_at _ hp2.1 hp2.2, rfl⟩
    · rw [if_neg h2]
      have h34 : k = 3 ∨ k = 4 := by omega
      split
      · refine ⟨rfl, ?_, by show (0 : Int) ≠ 5; decide⟩
        exact decide_eq_true (Or.inr ⟨rfl, h34⟩)
      · refine ⟨?_, decide_eq_true (Or.inl rfl), by show k ≠ 5; omega⟩
        show flatOk k (1 + pickI n many) ⟨#[]⟩ 0 = true
        unfold flatOk
        rw [if_neg (by omega), if_neg (by omega), if_neg (by omega), if_pos h34]
        exact decide_eq_true ⟨.inl ⟨by omega, by omega⟩, rfl, rfl⟩
theorem vFlat_fine {k : Int} (hk : 1 ≤ k ∧ k ≤ 4) (n : Int) {many : Int} (hm : 1 ≤ many ∧ many ≤ 1000) : (vFlat k n many).fine := by
  have h := (vFlat_fits hk n hm).1
  have hok : (vFlat k n many).ok = true := by unfold V.ok; rw [if_neg (vFlat_fits hk n hm).2.2]; exact h
  exact ok_fine hok
theorem vItems_okIn {o : Int} (ho : 1 ≤ o ∧ o ≤ 4) (n : Int) {many : Int} (hm : 1 ≤ many ∧ many ≤ 1000) (m : Nat) : ∀ u ∈ vItems o n many m, u.flatOk = true ∧ fkB u.k o = true ∧ u.okIn = true := by
  intro u hu
  unfold vItems at hu
  obtain ⟨i, _, rfl⟩ := List.mem_map.1 hu
  obtain ⟨h1, h2, h3⟩ := vFlat_fits ho (n.tdiv 4 + (i : Int)) hm
  refine ⟨h1, h2, ?_⟩
  unfold V.okIn
  rw [h1, Bool.and_true, Bool.not_eq_true', beq_eq_false_iff_ne]
  exact h3
theorem vOf_fits {k o : Int} (hr : rtB k o = true) (n : Int) {many : Int} (hm : 1 ≤ many ∧ many ≤ 1000) : fitsB (vOf k o n many) k o = true := by
  unfold fitsB vOf
  rw [hr, Bool.true_and]
  unfold rtB at hr
  by_cases h5 : k = 5
  · rw [if_pos h5] at hr
    have ho := of_decide_eq_true hr
    have hp := pickI_bd n 4 (by decide)
    have hin := vItems_okIn ho n hm (pickI n 4).toNat
    rw [if_pos h5, if_pos h5, Bool.and_eq_true, Bool.and_eq_true]
    refine ⟨?_, List.all_eq_true.2 (fun u hu => (hin u hu).2.1), rfl⟩
    show V.ok (.mk 5 0 ⟨#[]⟩ _) = true
    unfold V.ok
    rw [if_pos (show (V.mk 5 0 ⟨#[]⟩ (vItems o n many (pickI n 4).toNat)).k = 5 from rfl), Bool.and_eq_true, Bool.and_eq_true]
    refine ⟨decide_eq_true ⟨rfl, rfl⟩, decide_eq_true ?_, List.all_eq_true.2 (fun u hu => (hin u hu).2.2)⟩
    show (vItems o n many (pickI n 4).toNat).length ≤ 12
    rw [vItems_len]; omega
  · rw [if_neg h5] at hr
    have hk := (of_decide_eq_true hr).1
    rw [if_neg h5, if_neg h5]
    obtain ⟨h1, h2, h3⟩ := vFlat_fits hk n hm
    rw [h2, Bool.and_true]
    unfold V.ok
    rw [if_neg h3]
    exact h1
theorem fits_ok {v : V} {k o : Int} (h : fitsB v k o = true) : v.ok = true := by
  unfold fitsB at h
  rw [Bool.and_eq_true, Bool.and_eq_true] at h
  exact h.1.2

/-- the raw number of the i-th field -/
def numAt (l : List Int) (i : Nat) : Int := if l.length = 0 then (i : Int) else IntKind.i64.wrap (l.getD (i % l.length) 0 + (i : Int))
/-- values of the first fields of a class -/
def vsTo (fs : List Fl) (l : List Int) (many : Int) (n : Nat) : List V := (List.range n).map (fun i => vOf (fs.getD i ⟨⟨#[]⟩, 0, 0, false⟩).k (fs.getD i ⟨⟨#[]⟩, 0, 0, false⟩).o (numAt l i) many)
theorem vsTo_len (fs : List Fl) (l : List Int) (many : Int) (n : Nat) : (vsTo fs l many n).length = n := by simp [vsTo]
theorem vsTo_succ (fs : List Fl) (l : List Int) (many : Int) (n : Nat) (h : n < fs.length) : vsTo fs l many (n + 1) = vsTo fs l many n ++ [vOf fs[n].k fs[n].o (numAt l n) many] := by
  unfold vsTo
  rw [List.range_succ, List.map_append]
  have e : fs.getD n ⟨⟨#[]⟩, 0, 0, false⟩ = fs[n] := by rw [List.getD_eq_getElem?_getD, List.getElem?_eq_getElem h]; rfl
  rw [List.map_singleton, e]
theorem vsTo_at (fs : List Fl) (l : List Int) (many : Int) (n i : Nat) (h : i < (vsTo fs l many n).length) (hi : i < fs.length) : (vsTo fs l many n)[i] = vOf fs[i].k fs[i].o (numAt l i) many := by
  have e : fs.getD i ⟨⟨#[]⟩, 0, 0, false⟩ = fs[i] := by rw [List.getD_eq_getElem?_getD, List.getElem?_eq_getElem hi]; rfl
  simp only [vsTo, List.getElem_map, List.getElem_range, e]
/-- all values fit all fields -/
def AllFit (fs : List Fl) (vs : List V) : Prop := vs.length = fs.length ∧ ∀ i (h : i < vs.length) (h' : i < fs.length), fitsB vs[i] fs[i].k fs[i].o = true
theorem vsTo_fit {nm : ByteArray} {fs : List Fl} (hok : (Cl.mk nm fs).ok = true) (l : List Int) {many : Int} (hm : 1 ≤ many ∧ many ≤ 1000) : AllFit fs (vsTo fs l many fs.length) := by
  refine ⟨vsTo_len _ _ _ _, fun i h h' => ?_⟩
  rw [vsTo_at fs l many _ i h h']
  exact vOf_fits (Fl.ok_parts ((Cl.ok_parts hok).2.2 i h').1).2.2.2.1 _ hm
theorem AllFit.check {nm : ByteArray} {fs : List Fl} {vs : List V} (hok : (Cl.mk nm fs).ok = true) (h : AllFit fs vs) : checkC ⟨nm, fs⟩ vs = (0, 0) := by
  unfold checkC
  rw [if_neg (by rw [hok]; decide), if_neg (fun e => e h.1), show (Cl.mk nm fs).fs = fs from rfl, misfit_none (fun j hj => by rw [fitAt_of hj (by rw [h.1]; exact hj)]; exact h.2 j _ _)]
theorem AllFit.set {fs : List Fl} {vs : List V} (h : AllFit fs vs) {a : Nat} (ha : a < fs.length) {v : V} (hv : fitsB v fs[a].k fs[a].o = true) : AllFit fs (vs.set a v) := by
  refine ⟨by rw [List.length_set]; exact h.1, fun i h1 h2 => ?_⟩
  rw [List.getElem_set]
  split
  · rename_i e; subst e; exact hv
  · exact h.2 i _ _
theorem AllFit.miss {nm : ByteArray} {fs : List Fl} {vs : List V} (hok : (Cl.mk nm fs).ok = true) (h : AllFit fs vs) {a : Nat} (ha : a < fs.length) {v : V} (hv : fitsB v fs[a].k fs[a].o = false) : checkC ⟨nm, fs⟩ (vs.set a v) = ((a : Int), 42) := by
  have hl : (vs.set a v).length = fs.length := by rw [List.length_set]; exact h.1
  have e1 : ∀ j, j < a → fitAt fs (vs.set a v) j = true := fun j hj => by
    rw [fitAt_of (by omega) (by omega), List.getElem_set_ne (by omega)]
    exact h.2 j (by have := h.1; omega) (by omega)
  have e2 : fitAt fs (vs.set a v) a = false := by
    rw [fitAt_of ha (by omega), List.getElem_set_self]
    exact hv
  unfold checkC
  rw [if_neg (by rw [hok]; decide), if_neg (fun e => e hl), show (Cl.mk nm fs).fs = fs from rfl, misfit_at ha e1 e2]
/-- nothing fits references alone -/
theorem fits_nil {k o : Int} (hr : rtB k o = true) : fitsB (.mk 0 0 ⟨#[]⟩ []) k o = decide (k = 3 ∨ k = 4) := by
  unfold fitsB
  rw [hr]
  have hk : 1 ≤ k ∧ k ≤ 5 := by
    unfold rtB at hr
    split at hr
    · omega
    · have := of_decide_eq_true hr; omega
  have hc : k = 1 ∨ k = 2 ∨ k = 3 ∨ k = 4 ∨ k = 5 := by omega
  rcases hc with rfl | rfl | rfl | rfl | rfl <;> rfl
/-- fields' least values -/
def zerosTo (fs : List Fl) (n : Nat) : List V := (List.range n).map (fun i => .mk (zeroK (fs.getD i ⟨⟨#[]⟩, 0, 0, false⟩).k (fs.getD i ⟨⟨#[]⟩, 0, 0, false⟩).o) 0 ⟨#[]⟩ [])
theorem zerosTo_len (fs : List Fl) (n : Nat) : (zerosTo fs n).length = n := by simp [zerosTo]
theorem zerosTo_succ (fs : List Fl) (n : Nat) (h : n < fs.length) : zerosTo fs (n + 1) = zerosTo fs n ++ [.mk (zeroK fs[n].k fs[n].o) 0 ⟨#[]⟩ []] := by
  unfold zerosTo
  rw [List.range_succ, List.map_append]
  have e : fs.getD n ⟨⟨#[]⟩, 0, 0, false⟩ = fs[n] := by rw [List.getD_eq_getElem?_getD, List.getElem?_eq_getElem h]; rfl
  rw [List.map_singleton, e]
theorem zerosTo_fit {nm : ByteArray} {fs : List Fl} (hok : (Cl.mk nm fs).ok = true) : AllFit fs (zerosTo fs fs.length) := by
  refine ⟨zerosTo_len _ _, fun i h h' => ?_⟩
  have e : fs.getD i ⟨⟨#[]⟩, 0, 0, false⟩ = fs[i] := by rw [List.getD_eq_getElem?_getD, List.getElem?_eq_getElem h']; rfl
  have ev : (zerosTo fs fs.length)[i] = .mk (zeroK fs[i].k fs[i].o) 0 ⟨#[]⟩ [] := by
    simp only [zerosTo, List.getElem_map, List.getElem_range, e]
  rw [ev, fits_zero]
  exact (Fl.ok_parts ((Cl.ok_parts hok).2.2 i h').1).2.2.2.1
/-- fields of the same types -/
theorem AllFit.types {fs gs : List Fl} {vs : List V} (h : AllFit fs vs) (hl : gs.length = fs.length) (ht : ∀ i (h1 : i < gs.length) (h2 : i < fs.length), gs[i].k = fs[i].k ∧ gs[i].o = fs[i].o) : AllFit gs vs := by
  refine ⟨by rw [hl]; exact h.1, fun i h1 h2 => ?_⟩
  obtain ⟨e1, e2⟩ := ht i h2 (by omega)
  rw [e1, e2]
  exact h.2 i h1 _
def quiteNew : ByteArray := ⟨#[113, 117, 105, 116, 101, 95, 110, 101, 119]⟩
theorem quiteNew_size : quiteNew.size = 9 := rfl
theorem quiteNew_ok : nmOk quiteNew.data.toList = true := by decide
/-- a field named anew -/
theorem renamed_ok {nm : ByteArray} (hn : nmOk nm.data.toList = true) {fs : List Fl} (h : GoodL fs) (hl : fs.length ≤ 8) (hs : ∀ f ∈ fs, f.nm.size ≤ 8) (a : Nat) (ha : a < fs.length) : (Cl.mk nm (fs.set a { fs[a] with nm := quiteNew })).ok = true := by
  have hno : ∀ f ∈ fs, f.nm ≠ quiteNew := fun f hf e => by have := hs f hf; rw [e, quiteNew_size] at this; omega
  rw [other_name hn h hl a ha _ (fun e => hno _ (List.getElem_mem ha) e.symm)]
  have h1 : Fl.ok { fs[a] with nm := quiteNew } = true := by
    have h2 := (h a ha).1
    unfold Fl.ok at h2 ⊢
    rw [Bool.and_eq_true, Bool.and_eq_true] at h2
    rw [show ({ fs[a] with nm := quiteNew } : Fl).nm = quiteNew from rfl, quiteNew_ok, h2.1.2, h2.2]; rfl
  have h2 : fieldAt fs ({ fs[a] with nm := quiteNew } : Fl).nm = none := fieldAt_none (fun i hi e => hno _ (List.getElem_mem hi) (ba_eq_of e))
  rw [h1, h2]; rfl
theorem renamed_types (fs : List Fl) (a : Nat) (ha : a < fs.length) (nm : ByteArray) : (fs.set a { fs[a] with nm := nm }).length = fs.length ∧ ∀ i (h1 : i < (fs.set a { fs[a] with nm := nm }).length) (h2 : i < fs.length), (fs.set a { fs[a] with nm := nm })[i].k = fs[i].k ∧ (fs.set a { fs[a] with nm := nm })[i].o = fs[i].o := by
  refine ⟨List.length_set, fun i h1 h2 => ?_⟩
  rw [set_at ha _ i h1]
  split
  · rename_i e; subst e; exact ⟨rfl, rfl⟩
  · exact ⟨rfl, rfl⟩
end Go.Proofs.YtffoklhopmhjaaaDoor

/- A region that draws its order: loads are taken first though a last store hits their cells, if what is asked of the world ends with operations that wait for all of them. -/
set_option linter.unusedSimpArgs false
set_option linter.unusedVariables false
namespace Go.Proofs.YtffoklhopmhjaaaDoor
open Go

section
variable {P : Program} {ops : Array Oper} {Q : Exit → Act → World → Prop} {md : Region.Mode} {S : World → Prop} {T : Nat → Bool}

/-- whatever comes up next; behind an operation that is not among T the world meets S -/
def wpAnyT (P : Program) (md : Region.Mode) (ops : Array Oper) (Q : Exit → Act → World → Prop) (S : World → Prop) (T : Nat → Bool) : Nat → Array Bool → Act → World → Prop
  | 0, listed, a, w => Region.ready md ops listed = [] ∧ Q .normal a w
  | n + 1, listed, a, w => (Region.ready md ops listed = [] → Q .normal a w) ∧
      ∀ i ∈ Region.ready md ops listed, wpOp P ops Q i (fun b v => (T i = false → S v) ∧ wpAnyT P md ops Q S T n (listed.setIfInBounds i true) b v) a w

theorem wpAny_of_T : ∀ (n : Nat) (listed : Array Bool) (a : Act) (w : World), wpAnyT P md ops Q S T n listed a w → wpAny P md ops Q n listed a w
  | 0, _, _, _, h => h
  | n + 1, _, _, _, h => ⟨h.1, fun i hi => wpOp_mono (fun b v k => wpAny_of_T n _ b v k.2) (h.2 i hi)⟩

/-- does j wait for i, at once or through others? -/
def leadsB (md : Region.Mode) (ops : Array Oper) : Nat → Nat → Nat → Bool
  | 0, _, _ => false
  | f + 1, j, i => match ops[j]? with
    | none => false
    | some o => o.after.any fun e => Region.binds md e && (e.on == i || leadsB md ops f e.on i)
/-- whatever is listed has all that it waits for listed -/
def Closed (md : Region.Mode) (ops : Array Oper) (listed : Array Bool) : Prop :=
  ∀ (j : Nat) (o : Oper), ops[j]? = some o → listed.getD j false = true → ∀ e ∈ o.after, Region.binds md e = true → listed.getD e.on false = true
def closedB (md : Region.Mode) (ops : Array Oper) (listed : Array Bool) : Bool :=
  (List.range ops.size).all fun j => !listed.getD j false || match ops[j]? with
    | none => true
    | some o => o.after.all fun e => !Region.binds md e || listed.getD e.on false
theorem closed_of {listed : Array Bool} (h : closedB md ops listed = true) : Closed md ops listed := by
  intro j o ho hj e he hb
  unfold closedB at h
  rw [List.all_eq_true] at h
  have h1 := h j (List.mem_range.2 (Array.getElem?_eq_some_iff.1 ho).1)
  rw [ho, hj] at h1
  simp only [Bool.not_true, Bool.false_or, Array.all_eq_true_iff_forall_mem] at h1
  have h2 := h1 e he
  rw [hb] at h2
  simpa using h2
theorem leads_listed {listed : Array Bool} (hc : Closed md ops listed) : ∀ (f j i : Nat) (o : Oper), ops[j]? = some o → (∀ e ∈ o.after, Region.binds md e = true → listed.getD e.on false = true) → leadsB md ops f j i = true → listed.getD i false = true
  | 0, _, _, _, _, _, h => by cases h
  | f + 1, j, i, o, ho, hd, h => by
    unfold leadsB at h
    rw [ho] at h
    simp only [Array.any_eq_true] at h
    obtain ⟨k, hk, h⟩ := h
    rw [Bool.and_eq_true, Bool.or_eq_true] at h
    have hm := Array.getElem_mem hk
    have hl := hd _ hm h.1
    rcases h.2 with h2 | h2
    · rwa [beq_iff_eq.1 h2] at hl
    · cases ho2 : ops[(o.after[k]).on]? with
      | none =>
        cases f with
        | zero => cases h2
        | succ f => unfold leadsB at h2; rw [ho2] at h2; cases h2
      | some o2 => exact leads_listed hc f _ i o2 ho2 (fun e he hb => hc _ o2 ho2 hl e he hb) h2
theorem closed_set {listed : Array Bool} {j : Nat} (hc : Closed md ops listed) (hj : j ∈ Region.ready md ops listed) : Closed md ops (listed.setIfInBounds j true) := by
  intro k o ho hk e he hb
  refine getD_set_true ?_
  by_cases hjk : j = k
  · subst hjk
    obtain ⟨_, o', ho', hall⟩ := mem_ready.1 hj
    rw [ho] at ho'
    cases ho'
    exact hall e he hb
  · rw [getD_set_ne false hjk] at hk
    exact hc k o ho hk e he hb
theorem not_listed {listed : Array Bool} {i : Nat} (h : listed.getD i true = false) : listed.getD i false = false := by
  rcases Nat.lt_or_ge i listed.size with h' | h'
  · simpa [h'] using h
  · simp [Array.getElem?_eq_none h']

theorem wpAnyT_first {i : Nat} {oi : Oper} {v : Value} (hi : ops[i]? = some oi) (hsel : ∀ (j : Nat) (o : Oper) cs b, ops[j]? = some o → o.op ≠ .select cs b)
    (hT : ∀ j o, ops[j]? = some o → T j = true → leadsB md ops 64 j i = true) (hTi : T i = false)
    (hQ : ∀ c a w, Q (.panic c) (a.put oi.dst v) w → Q (.panic c) a w) :
    ∀ (n : Nat) (listed : Array Bool) (a : Act) (w : World), Closed md ops listed →
      (∀ j oj, ops[j]? = some oj → j ≠ i → listed.getD j true = false → (∀ e ∈ oj.after, Region.binds md e = true → e.on ≠ i) → oi.apart ops oj = true) →
      i ∈ Region.ready md ops listed → YieldsIf P ops S oi v a → S w →
      wpAnyT P md ops Q S T n (listed.setIfInBounds i true) (a.put oi.dst v) w → wpAnyT P md ops Q S T (n + 1) listed a w := by
  intro n
  induction n with
  | zero =>
    intro listed a w _ _ hr hy hS H
    refine ⟨fun h => absurd (h ▸ hr) (by simp), fun j hj => ?_⟩
    by_cases hji : j = i
    · subst hji; exact hy.wpOp hi hS ⟨fun _ => hS, H⟩
    · have h1 := ready_mono hj hji
      rw [H.1] at h1
      cases h1
  | succ n ih =>
    intro listed a w hcl hfree hr hy hS H
    refine ⟨fun h => absurd (h ▸ hr) (by simp), fun j hj => ?_⟩
    by_cases hji : j = i
    · subst hji; exact hy.wpOp hi hS ⟨fun _ => hS, H⟩
    · obtain ⟨hun, oj, hoj, hall⟩ := mem_ready.1 hj
      have hir := (mem_ready.1 hr).1
      have hTj : T j = false := by
        cases hTj : T j with
        | false => rfl
        | true =>
          have h1 := leads_listed hcl 64 j i oj hoj hall (hT j oj hoj hTj)
          rw [not_listed hir] at h1
          cases h1
      have hno : ∀ e ∈ oj.after, Region.binds md e = true → e.on ≠ i := fun e he hb heq => by
        have h1 := hall e he hb
        rw [heq, not_listed hir] at h1
        cases h1
      have h2 := wpOp_putIf hoj (hfree j oj hoj hji hun hno) (fun cs b => hsel i oi cs b hi) (fun cs b => hsel j oj cs b hoj) hQ hy (H.2 j (ready_mono hj hji))
      refine wpOp_mono (fun b u h3 => ⟨h3.2.1, ih (listed.setIfInBounds j true) b u (closed_set hcl hj) (fun k ok hk hki hkun hkno => ?_) (ready_mono hr (Ne.symm hji)) h3.1 (h3.2.1 hTj) ?_⟩) h2
      · refine hfree k ok hk hki ?_ hkno
        by_cases hjk : j = k
        · subst hjk; exact hun
        · rwa [getD_set_ne true hjk] at hkun
      · rw [Array.setIfInBounds_comm _ _ hji]
        exact h3.2.2

/-- what yields in whatever world is taken first, though S may be gone by then, if it is among T -/
theorem wpAnyT_pure' {i : Nat} {oi : Oper} {v : Value} (hi : ops[i]? = some oi) (hsel : ∀ (j : Nat) (o : Oper) cs b, ops[j]? = some o → o.op ≠ .select cs b) (hTi : T i = true)
    (hQ : ∀ c a w, Q (.panic c) (a.put oi.dst v) w → Q (.panic c) a w) :
    ∀ (n : Nat) (listed : Array Bool) (a : Act) (w : World),
      (∀ j oj, ops[j]? = some oj → j ≠ i → listed.getD j true = false → (∀ e ∈ oj.after, Region.binds md e = true → e.on ≠ i) → oi.apart ops oj = true) →
      i ∈ Region.ready md ops listed → YieldsIf P ops (fun _ => True) oi v a →
      wpAnyT P md ops Q S T n (listed.setIfInBounds i true) (a.put oi.dst v) w → wpAnyT P md ops Q S T (n + 1) listed a w := by
  intro n
  induction n with
  | zero =>
    intro listed a w _ hr hy H
    refine ⟨fun h => absurd (h ▸ hr) (by simp), fun j hj => ?_⟩
    by_cases hji : j = i
    · subst hji; exact hy.wpOp hi trivial ⟨(fun h => absurd (hTi.symm.trans h) (by decide)), H⟩
    · have h1 := ready_mono hj hji
      rw [H.1] at h1
      cases h1
  | succ n ih =>
    intro listed a w hfree hr hy H
    refine ⟨fun h => absurd (h ▸ hr) (by simp), fun j hj => ?_⟩
    by_cases hji : j = i
    · subst hji; exact hy.wpOp hi trivial ⟨(fun h => absurd (hTi.symm.trans h) (by decide)), H⟩
    · obtain ⟨hun, oj, hoj, hall⟩ := mem_ready.1 hj
      have hir := (mem_ready.1 hr).1
      have hno : ∀ e ∈ oj.after, Region.binds md e = true → e.on ≠ i := fun e he hb heq => by
        have h1 := hall e he hb
        rw [heq, not_listed hir] at h1
        cases h1
      have h2 := wpOp_putIf hoj (hfree j oj hoj hji hun hno) (fun cs b => hsel i oi cs b hi) (fun cs b => hsel j oj cs b hoj) hQ hy (H.2 j (ready_mono hj hji))
      refine wpOp_mono (fun b u h3 => ⟨h3.2.1, ih (listed.setIfInBounds j true) b u (fun k ok hk hki hkun hkno => ?_) (ready_mono hr (Ne.symm hji)) h3.1 ?_⟩) h2
      · refine hfree k ok hk hki ?_ hkno
        by_cases hjk : j = k
        · subst hjk; exact hun
        · rwa [getD_set_ne true hjk] at hkun
      · rw [Array.setIfInBounds_comm _ _ hji]
        exact h3.2.2
theorem wpAnyT_pure {i : Nat} {oi : Oper} {v : Value} {n : Nat} {listed : Array Bool} {a : Act} {w : World} (hi : ops[i]? = some oi)
    (hs : Region.noSelect ops = true) (hT : T i = true) (hf : Region.free md ops listed i = true) (hr : (Region.ready md ops listed).contains i = true)
    (hQ : ∀ c a w, Q (.panic c) (a.put oi.dst v) w → Q (.panic c) a w) (hy : YieldsIf P ops (fun _ => True) oi v a)
    (h : wpAnyT P md ops Q S T n (listed.setIfInBounds i true) (a.put oi.dst v) w) : wpAnyT P md ops Q S T (n + 1) listed a w :=
  wpAnyT_pure' hi (Region.noSelect_spec hs) hT hQ n listed a w (Region.free_spec hi hf) (by simpa using hr) hy h

def tailB (md : Region.Mode) (ops : Array Oper) (T : Nat → Bool) (i : Nat) : Bool := !T i && (List.range ops.size).all fun j => !T j || leadsB md ops 64 j i
/-- number i is taken first: in every world that meets S it yields v -/
theorem wpAnyT_take {i : Nat} {oi : Oper} {v : Value} {n : Nat} {listed : Array Bool} {a : Act} {w : World} (hi : ops[i]? = some oi)
    (hs : Region.noSelect ops = true) (hT : tailB md ops T i = true) (hc : closedB md ops listed = true) (hf : Region.free md ops listed i = true) (hr : (Region.ready md ops listed).contains i = true)
    (hQ : ∀ c a w, Q (.panic c) (a.put oi.dst v) w → Q (.panic c) a w) (hy : YieldsIf P ops S oi v a) (hS : S w)
    (h : wpAnyT P md ops Q S T n (listed.setIfInBounds i true) (a.put oi.dst v) w) : wpAnyT P md ops Q S T (n + 1) listed a w := by
  unfold tailB at hT
  rw [Bool.and_eq_true, List.all_eq_true] at hT
  refine wpAnyT_first hi (Region.noSelect_spec hs) (fun j o ho hj => ?_) (by simpa using hT.1) hQ n listed a w (closed_of hc) (Region.free_spec hi hf) (by simpa using hr) hy hS h
  have h1 := hT.2 j (List.mem_range.2 (Array.getElem?_eq_some_iff.1 ho).1)
  rw [hj] at h1
  simpa using h1
/-- number i takes no look at the world, whatever T says -/
theorem wpAnyT_run {i : Nat} {o : Oper} {n : Nat} {listed : Array Bool} {a : Act} {w : World} (hr : Region.ready md ops listed = [i]) (ho : ops[i]? = some o)
    (h : ∀ K : Act → World → Prop, Shut (∀ b u, (T i = false → S u) → wpAnyT P md ops Q S T n (listed.setIfInBounds i true) b u → K b u) → if Region.wanted o (yielded ops a.tmps) = true then Oper.wp P o a w K Q else K (a.put o.dst undef) w) :
    wpAnyT P md ops Q S T (n + 1) listed a w := by
  refine ⟨fun h0 => absurd (hr ▸ h0) (by simp), fun j hj => ?_⟩
  rw [hr] at hj
  obtain rfl : j = i := by simpa using hj
  exact wpOp_step ho (fun K hK => h K (fun b u hS hW => hK b u ⟨hS, hW⟩))
/-- one of two comes up -/
theorem wpAnyT_two {i j : Nat} {o o' : Oper} {n : Nat} {listed : Array Bool} {a : Act} {w : World} (hr : Region.ready md ops listed = [i, j]) (ho : ops[i]? = some o) (ho' : ops[j]? = some o')
    (h : ∀ K : Act → World → Prop, Shut (∀ b u, (T i = false → S u) → wpAnyT P md ops Q S T n (listed.setIfInBounds i true) b u → K b u) → if Region.wanted o (yielded ops a.tmps) = true then Oper.wp P o a w K Q else K (a.put o.dst undef) w)
    (h' : ∀ K : Act → World → Prop, Shut (∀ b u, (T j = false → S u) → wpAnyT P md ops Q S T n (listed.setIfInBounds j true) b u → K b u) → if Region.wanted o' (yielded ops a.tmps) = true then Oper.wp P o' a w K Q else K (a.put o'.dst undef) w) :
    wpAnyT P md ops Q S T (n + 1) listed a w := by
  refine ⟨fun h0 => absurd (hr ▸ h0) (by simp), fun k hk => ?_⟩
  rw [hr] at hk
  rcases List.mem_cons.1 hk with rfl | hk
  · exact wpOp_step ho (fun K hK => h K (fun b u hS hW => hK b u ⟨hS, hW⟩))
  · obtain rfl : k = j := by simpa using hk
    exact wpOp_step ho' (fun K hK => h' K (fun b u hS hW => hK b u ⟨hS, hW⟩))
theorem wpAnyT_done {listed : Array Bool} {a : Act} {w : World} (hr : Region.ready md ops listed = []) (h : Q .normal a w) : ∀ n, wpAnyT P md ops Q S T n listed a w
  | 0 => ⟨hr, h⟩
  | _ + 1 => ⟨fun _ => h, by rw [hr]; simp⟩
/-- the beginning -/
theorem wp_region_T {id : Nat} {a : Act} {w : World} (S : World → Prop) (T : Nat → Bool) (hm : P.follows .mixedOrders = true)
    (h : wpAnyT P .any ops Q S T ops.size (Array.replicate ops.size false) a w.drew) : (Code.region id ops true).wp P Q a w :=
  wp_region_any hm (wpAny_of_T _ _ _ _ h)
end
end Go.Proofs.YtffoklhopmhjaaaDoor

/- morainelaw04.ValOf: values that are no lists. -/
set_option linter.unusedSimpArgs false
set_option linter.unusedVariables false
namespace Go.Proofs.YtffoklhopmhjaaaDoor
open Go Go.RowKit Go.Shelf

def vtexts8 : Array Value := #[.string ⟨#[]⟩, .string ⟨#[97]⟩, .string ⟨#[98, 99]⟩, .string ⟨#[195, 169, 116, 195, 169]⟩, .string ⟨#[97, 32, 98]⟩, .string ⟨#[122, 122, 32, 116, 111, 112]⟩, .string ⟨#[48]⟩, .string ⟨#[45, 55]⟩]
theorem vtexts8_at (q : Nat) (h : q < 8) : vtexts8[q]? = some (.string (nameIn vTexts (q : Int))) := by
  match q, h with
  | 0, _ => rfl
  | 1, _ => rfl
  | 2, _ => rfl
  | 3, _ => rfl
  | 4, _ => rfl
  | 5, _ => rfl
  | 6, _ => rfl
  | 7, _ => rfl
/-- the boxes at ValOf's entry -/
structure VoSt (w : World) (k o : Int) (W : World) : Prop where
  tb : TBox W w.heap.size k o
  out : VBox W (w.heap.size + 1) 0 0 ⟨#[]⟩ (.slice none 0 0)
  txt : W.heap[w.heap.size + 2]? = some (.cells vtexts8 9 (0, 0))
  below : Below w.heap.size w W
theorem VoSt.new (w : World) (k o : Int) : VoSt w k o (((w.alloc (.cells #[.int .i64 k, .int .i64 o] 51)).alloc (.cells #[.int .i64 0, .int .i64 0, .string ⟨#[]⟩, .slice none 0 0] 31)).alloc (.cells vtexts8 9)) := by
  refine ⟨((TBox.new w k o).alloc _).alloc _, ?_, ?_, (below_two _ _).alloc (by simp; omega) _⟩
  · have h := (VBox.new (w.alloc (.cells #[.int .i64 k, .int .i64 o] 51)) 0 0 ⟨#[]⟩ (.slice none 0 0)).alloc (.cells vtexts8 9)
    rwa [World.size_alloc] at h
  · have h := World.alloc_heap_new ((w.alloc (.cells #[.int .i64 k, .int .i64 o] 51)).alloc (.cells #[.int .i64 0, .int .i64 0, .string ⟨#[]⟩, .slice none 0 0] 31)) (.cells vtexts8 9)
    rwa [World.size_alloc, World.size_alloc] at h
theorem VoSt.text {w : World} {k o : Int} {W : World} (h : VoSt w k o W) (q : Nat) (hq : q < 8) : W.cell? ⟨w.heap.size + 1 + 1, q, none⟩ = some (.string (nameIn vTexts (q : Int))) := by
  have h2 := h.txt
  rw [show w.heap.size + 2 = w.heap.size + 1 + 1 from rfl] at h2
  rw [Lib.cell_of_heap h2]
  exact vtexts8_at q hq
theorem VoSt.fin {w : World} {k o : Int} {W : World} (h : VoSt w k o W) (k' n' : Int) (s' : ByteArray) : VBox (putBox W (w.heap.size + 1) k' n' s' (.slice none 0 0)) (w.heap.size + 1) k' n' s' (.slice none 0 0) ∧ Below w.heap.size w (putBox W (w.heap.size + 1) k' n' s' (.slice none 0 0)) :=
  ⟨h.out.put _ _ _ _, below_put h.below (by omega) _ _ _ _⟩

set_option maxHeartbeats 2000000 in
set_option maxRecDepth 100000 in
theorem valOf4_num (o n many : Int) (hn : -9223372036854775808 ≤ n ∧ n ≤ 9223372036854775807) (w : World) :
    Calls Tryd.prog 23 #[.agg #[.int .i64 1, .int .i64 o], .int .i64 n, .int .i64 many] w fun e w' => e = .returned (valV 1 (pickI n 41 - 20) ⟨#[]⟩ (.slice none 0 0)) ∧ Below w.heap.size w w' := by
  have hp := fun W => pick4_any n 41 hn.1 hn.2 (by decide) (by decide) W
  have hb := pickI_bd n 41 (by decide)
  have hS := VoSt.new w 1 o
  generalize pickI n 41 = q at hp hb ⊢
  obtain ⟨hb1, hb2⟩ := hb
  have hw : IntKind.i64.wrap (q - 20) = q - 20 := IntWalk.i64_in _ (by omega)
  have HP := Lib.hid hp
  have HS := Lib.hid hS
  clear hp hS hn
  unfold vtexts8 at HS
  go_enter Tryd.func23, Tryd.ntmps23
  go_wp2_with fail
  generalize ((w.alloc (.cells #[.int .i64 1, .int .i64 o] 51)).alloc (.cells #[.int .i64 0, .int .i64 0, .string ⟨#[]⟩, .slice none 0 0] 31)).alloc (.cells #[.string ⟨#[]⟩, .string ⟨#[97]⟩, .string ⟨#[98, 99]⟩, .string ⟨#[195, 169, 116, 195, 169]⟩, .string ⟨#[97, 32, 98]⟩, .string ⟨#[122, 122, 32, 116, 111, 112]⟩, .string ⟨#[48]⟩, .string ⟨#[45, 55]⟩] 9) = W3 at HS ⊢
  refine (HP.out _).mono ?_
  rintro e W4 ⟨rfl, rfl⟩
  obtain ⟨⟨e0, e1, e2, e3⟩, g0, g1, g2, g3⟩ := HS.out.out.facts
  go_wp2_with fail
  obtain ⟨hV, hB⟩ := HS.out.fin 1 (q - 20) ⟨#[]⟩
  unfold putBox at hV hB
  generalize (((W3.setCell ⟨w.heap.size + 1, 0, none⟩ (.int .i64 1)).setCell ⟨w.heap.size + 1, 1, none⟩ (.int .i64 (q - 20))).setCell ⟨w.heap.size + 1, 2, none⟩ (.string ⟨#[]⟩)).setCell ⟨w.heap.size + 1, 3, none⟩ (.slice none 0 0) = W9 at hV hB ⊢
  obtain ⟨⟨x0, x1, x2, x3⟩, _⟩ := hV.facts
  exact bodyPost_ret (v := valV 1 (q - 20) ⟨#[]⟩ (.slice none 0 0)) (by simp [results, Tryd.results23, go_sem, x0, x1, x2, x3]) rfl ⟨rfl, hB⟩

set_option maxHeartbeats 2000000 in
set_option maxRecDepth 100000 in
theorem valOf4_text (o n many : Int) (hn : -9223372036854775808 ≤ n ∧ n ≤ 9223372036854775807) (w : World) :
    Calls Tryd.prog 23 #[.agg #[.int .i64 2, .int .i64 o], .int .i64 n, .int .i64 many] w fun e w' => e = .returned (valV 2 0 (nameIn vTexts (pickI n 8)) (.slice none 0 0)) ∧ Below w.heap.size w w' := by
  have hp := fun W => pick4_any n 8 hn.1 hn.2 (by decide) (by decide) W
  have hb := pickI_bd n 8 (by decide)
  have hS := VoSt.new w 2 o
  obtain ⟨q, hq⟩ : ∃ q : Nat, pickI n 8 = (q : Int) := ⟨(pickI n 8).toNat, by omega⟩
  rw [hq] at hp hb ⊢
  have hq8 : q < 8 := by omega
  have htx := hS.text q hq8
  clear hq hb hn
  generalize nameIn vTexts (q : Int) = tx at htx ⊢
  have hqi : (q : Int) < 8 := by omega
  have hq0 : (0 : Int) ≤ (q : Int) := by omega
  have HP := Lib.hid hp
  have HS := Lib.hid hS
  clear hp hS
  unfold vtexts8 at HS htx
  go_enter Tryd.func23, Tryd.ntmps23
  go_wp2_with fail
  generalize ((w.alloc (.cells #[.int .i64 2, .int .i64 o] 51)).alloc (.cells #[.int .i64 0, .int .i64 0, .string ⟨#[]⟩, .slice none 0 0] 31)).alloc (.cells #[.string ⟨#[]⟩, .string ⟨#[97]⟩, .string ⟨#[98, 99]⟩, .string ⟨#[195, 169, 116, 195, 169]⟩, .string ⟨#[97, 32, 98]⟩, .string ⟨#[122, 122, 32, 116, 111, 112]⟩, .string ⟨#[48]⟩, .string ⟨#[45, 55]⟩] 9) = W3 at HS htx ⊢
  refine (HP.out _).mono ?_
  rintro e W4 ⟨rfl, rfl⟩
  obtain ⟨⟨e0, e1, e2, e3⟩, g0, g1, g2, g3⟩ := HS.out.out.facts
  go_wp2_with fail
  obtain ⟨hV, hB⟩ := HS.out.fin 2 0 tx
  unfold putBox at hV hB
  generalize (((W3.setCell ⟨w.heap.size + 1, 0, none⟩ (.int .i64 2)).setCell ⟨w.heap.size + 1, 1, none⟩ (.int .i64 0)).setCell ⟨w.heap.size + 1, 2, none⟩ (.string tx)).setCell ⟨w.heap.size + 1, 3, none⟩ (.slice none 0 0) = W9 at hV hB ⊢
  obtain ⟨⟨x0, x1, x2, x3⟩, _⟩ := hV.facts
  exact bodyPost_ret (v := valV 2 0 tx (.slice none 0 0)) (by simp [results, Tryd.results23, go_sem, x0, x1, x2, x3]) rfl ⟨rfl, hB⟩

set_option maxHeartbeats 4000000 in
set_option maxRecDepth 100000 in
theorem valOf4_ref (o n many : Int) (hn : -9223372036854775808 ≤ n ∧ n ≤ 9223372036854775807) (hm : 1 ≤ many ∧ many ≤ 1000) (w : World) :
    Calls Tryd.prog 23 #[.agg #[.int .i64 3, .int .i64 o], .int .i64 n, .int .i64 many] w fun e w' => e = .returned (if pickI n 5 = 4 then valV 0 0 ⟨#[]⟩ (.slice none 0 0) else valV 3 (1 + pickI n many) ⟨#[]⟩ (.slice none 0 0)) ∧ Below w.heap.size w w' := by
  have hp := fun W => pick4_any n 5 hn.1 hn.2 (by decide) (by decide) W
  have hq := fun W => pick4_any n many hn.1 hn.2 (by omega) (by omega) W
  have hb := pickI_bd n many (by omega)
  have hS := VoSt.new w 3 o
  generalize pickI n 5 = r at hp ⊢
  generalize pickI n many = q at hq hb ⊢
  obtain ⟨hb1, hb2⟩ := hb
  have hw : IntKind.i64.wrap (1 + q) = 1 + q := IntWalk.i64_in _ (by omega)
  have hm1 : decide (many < 1) = false := decide_eq_false (by omega)
  have hm1' : ¬ many < 1 := by omega
  have HP := Lib.hid hp
  have HQ := Lib.hid hq
  have HS := Lib.hid hS
  clear hp hq hS hn
  unfold vtexts8 at HS
  by_cases h4 : r = 4
  · have d4 : (r == 4) = true := by rw [beq_iff_eq]; exact h4
    refine (show Calls Tryd.prog 23 #[.agg #[.int .i64 3, .int .i64 o], .int .i64 n, .int .i64 many] w (fun e w' => e = .returned (valV 0 0 ⟨#[]⟩ (.slice none 0 0)) ∧ Below w.heap.size w w') from ?_).mono (fun e w' h => ⟨by rw [if_pos h4]; exact h.1, h.2⟩)
    clear h4
    go_enter Tryd.func23, Tryd.ntmps23
    go_wp2_with fail
    generalize ((w.alloc (.cells #[.int .i64 3, .int .i64 o] 51)).alloc (.cells #[.int .i64 0, .int .i64 0, .string ⟨#[]⟩, .slice none 0 0] 31)).alloc (.cells #[.string ⟨#[]⟩, .string ⟨#[97]⟩, .string ⟨#[98, 99]⟩, .string ⟨#[195, 169, 116, 195, 169]⟩, .string ⟨#[97, 32, 98]⟩, .string ⟨#[122, 122, 32, 116, 111, 112]⟩, .string ⟨#[48]⟩, .string ⟨#[45, 55]⟩] 9) = W3 at HS ⊢
    refine (HP.out _).mono ?_
    rintro e W4 ⟨rfl, rfl⟩
    obtain ⟨⟨e0, e1, e2, e3⟩, g0, g1, g2, g3⟩ := HS.out.out.facts
    go_wp2_with fail
    obtain ⟨hV, hB⟩ := HS.out.fin 0 0 ⟨#[]⟩
    unfold putBox at hV hB
    generalize (((W3.setCell ⟨w.heap.size + 1, 0, none⟩ (.int .i64 0)).setCell ⟨w.heap.size + 1, 1, none⟩ (.int .i64 0)).setCell ⟨w.heap.size + 1, 2, none⟩ (.string ⟨#[]⟩)).setCell ⟨w.heap.size + 1, 3, none⟩ (.slice none 0 0) = W9 at hV hB ⊢
    obtain ⟨⟨x0, x1, x2, x3⟩, _⟩ := hV.facts
    exact bodyPost_ret (v := valV 0 0 ⟨#[]⟩ (.slice none 0 0)) (by simp [results, Tryd.results23, go_sem, x0, x1, x2, x3]) rfl ⟨rfl, hB⟩
  · have d4 : (r == 4) = false := by rw [beq_eq_false_iff_ne]; exact h4
    refine (show Calls Tryd.prog 23 #[.agg #[.int .i64 3, .int .i64 o], .int .i64 n, .int .i64 many] w (fun e w' => e = .returned (valV 3 (1 + q) ⟨#[]⟩ (.slice none 0 0)) ∧ Below w.heap.size w w') from ?_).mono (fun e w' h => ⟨by rw [if_neg h4]; exact h.1, h.2⟩)
    clear h4
    go_enter Tryd.func23, Tryd.ntmps23
    go_wp2_with fail
    generalize ((w.alloc (.cells #[.int .i64 3, .int .i64 o] 51)).alloc (.cells #[.int .i64 0, .int .i64 0, .string ⟨#[]⟩, .slice none 0 0] 31)).alloc (.cells #[.string ⟨#[]⟩, .string ⟨#[97]⟩, .string ⟨#[98, 99]⟩, .string ⟨#[195, 169, 116, 195, 169]⟩, .string ⟨#[97, 32, 98]⟩, .string ⟨#[122, 122, 32, 116, 111, 112]⟩, .string ⟨#[48]⟩, .string ⟨#[45, 55]⟩] 9) = W3 at HS ⊢
    refine (HP.out _).mono ?_
    rintro e W4 ⟨rfl, rfl⟩
    obtain ⟨⟨e0, e1, e2, e3⟩, g0, g1, g2, g3⟩ := HS.out.out.facts
    obtain ⟨t0, t1⟩ := HS.out.tb.facts
    have t2 : W3.drew.cell? ⟨w.heap.size, 0, none⟩ = some (.int .i64 3) := t0
    go_wp2_with fail
    refine wp_region_T (fun W : World => W.cell? ⟨w.heap.size, 0, none⟩ = some (.int .i64 3)) (fun j => j == 7) (by kernel_rfl) ?_
    refine wpAnyT_take (i := 0) (v := ?v0) rfl (by kernel_rfl) (by kernel_rfl) (by kernel_rfl) (by kernel_rfl) (by kernel_rfl) (fun _ _ _ h => h) (Or.inl ⟨by rfl, ?y0⟩) (t2) ?r0
    case y0 => (intro w hSw; (try dsimp only at hSw); go_simp; try with_reducible rfl)
    try simp only [Act.put, List.setIfInBounds_toArray, List.set_cons_zero, List.set_cons_succ, List.getElem_toArray, List.getElem_cons_succ, List.getElem_cons_zero]
    refine wpAnyT_take (i := 1) (v := ?v1) rfl (by kernel_rfl) (by kernel_rfl) (by kernel_rfl) (by kernel_rfl) (by kernel_rfl) (fun _ _ _ h => h) (Or.inl ⟨by rfl, ?y1⟩) (t2) ?r1
    case y1 => (intro w hSw; (try dsimp only at hSw); go_simp; try with_reducible rfl)
    try simp only [Act.put, List.setIfInBounds_toArray, List.set_cons_zero, List.set_cons_succ, List.getElem_toArray, List.getElem_cons_succ, List.getElem_cons_zero]
    refine wpAnyT_take (i := 2) (v := ?v2) rfl (by kernel_rfl) (by kernel_rfl) (by kernel_rfl) (by kernel_rfl) (by kernel_rfl) (fun _ _ _ h => h) (Or.inl ⟨by rfl, ?y2⟩) (t2) ?r2
    case y2 => (intro w hSw; (try dsimp only at hSw); go_simp; try with_reducible rfl)
    try simp only [Act.put, List.setIfInBounds_toArray, List.set_cons_zero, List.set_cons_succ, List.getElem_toArray, List.getElem_cons_succ, List.getElem_cons_zero]
    refine wpAnyT_take (i := 3) (v := ?v3) rfl (by kernel_rfl) (by kernel_rfl) (by kernel_rfl) (by kernel_rfl) (by kernel_rfl) (fun _ _ _ h => h) (Or.inl ⟨by rfl, ?y3⟩) (t2) ?r3
    case y3 => (intro w hSw; (try dsimp only at hSw); go_simp; try with_reducible rfl)
    try simp only [Act.put, List.setIfInBounds_toArray, List.set_cons_zero, List.set_cons_succ, List.getElem_toArray, List.getElem_cons_succ, List.getElem_cons_zero]
    refine wpAnyT_run (i := 4) (by kernel_rfl) rfl (fun K hK => ?_)
    go_simp
    (refine (HQ.out _).mono ?_; rintro e Y1 ⟨rfl, rfl⟩)
    go_wp2_with fail
    refine hK.out _ _ (fun _ => t2) ?_
    clear hK K
    try simp only [Act.put, List.setIfInBounds_toArray, List.set_cons_zero, List.set_cons_succ, List.getElem_toArray, List.getElem_cons_succ, List.getElem_cons_zero]
    refine wpAnyT_run (i := 5) (by kernel_rfl) rfl (fun K hK => ?_)
    go_simp
    refine hK.out _ _ (fun _ => t2) ?_
    clear hK K
    try simp only [Act.put, List.setIfInBounds_toArray, List.set_cons_zero, List.set_cons_succ, List.getElem_toArray, List.getElem_cons_succ, List.getElem_cons_zero]
    refine wpAnyT_run (i := 6) (by kernel_rfl) rfl (fun K hK => ?_)
    go_simp
    refine hK.out _ _ (fun _ => t2) ?_
    clear hK K
    try simp only [Act.put, List.setIfInBounds_toArray, List.set_cons_zero, List.set_cons_succ, List.getElem_toArray, List.getElem_cons_succ, List.getElem_cons_zero]
    refine wpAnyT_run (i := 7) (by kernel_rfl) rfl (fun K hK => ?_)
    go_simp
    refine hK.out _ _ (fun h => absurd h (by decide)) ?_
    clear hK K
    try simp only [Act.put, List.setIfInBounds_toArray, List.set_cons_zero, List.set_cons_succ, List.getElem_toArray, List.getElem_cons_succ, List.getElem_cons_zero]
    refine wpAnyT_done (by kernel_rfl) ?_ _
    obtain ⟨hV, hB⟩ := HS.out.fin 3 (1 + q) ⟨#[]⟩
    have hV' := hV.below (Below.refl _ _).drew
    have hB' := hB.drew
    unfold putBox at hV' hB'
    go_wp2_with fail
    obtain ⟨⟨x0, x1, x2, x3⟩, _⟩ := hV'.facts
    exact bodyPost_ret (v := valV 3 (1 + q) ⟨#[]⟩ (.slice none 0 0)) (by simp [results, Tryd.results23, go_sem, x0, x1, x2, x3]) rfl ⟨rfl, hB'⟩

set_option maxHeartbeats 4000000 in
set_option maxRecDepth 100000 in
theorem valOf4_weak (o n many : Int) (hn : -9223372036854775808 ≤ n ∧ n ≤ 9223372036854775807) (hm : 1 ≤ many ∧ many ≤ 1000) (w : World) :
    Calls Tryd.prog 23 #[.agg #[.int .i64 4, .int .i64 o], .int .i64 n, .int .i64 many] w fun e w' => e = .returned (if pickI n 5 = 4 then valV 0 0 ⟨#[]⟩ (.slice none 0 0) else valV 4 (1 + pickI n many) ⟨#[]⟩ (.slice none 0 0)) ∧ Below w.heap.size w w' := by
  have hp := fun W => pick4_any n 5 hn.1 hn.2 (by decide) (by decide) W
  have hq := fun W => pick4_any n many hn.1 hn.2 (by omega) (by omega) W
  have hb := pickI_bd n many (by omega)
  have hS := VoSt.new w 4 o
  generalize pickI n 5 = r at hp ⊢
  generalize pickI n many = q at hq hb ⊢
  obtain ⟨hb1, hb2⟩ := hb
  have hw : IntKind.i64.wrap (1 + q) = 1 + q := IntWalk.i64_in _ (by omega)
  have hm1 : decide (many < 1) = false := decide_eq_false (by omega)
  have hm1' : ¬ many < 1 := by omega
  have HP := Lib.hid hp
  have HQ := Lib.hid hq
  have HS := Lib.hid hS
  clear hp hq hS hn
  unfold vtexts8 at HS
  by_cases h4 : r = 4
  · have d4 : (r == 4) = true := by rw [beq_iff_eq]; exact h4
    refine (show Calls Tryd.prog 23 #[.agg #[.int .i64 4, .int .i64 o], .int .i64 n, .int .i64 many] w (fun e w' => e = .returned (valV 0 0 ⟨#[]⟩ (.slice none 0 0)) ∧ Below w.heap.size w w') from ?_).mono (fun e w' h => ⟨by rw [if_pos h4]; exact h.1, h.2⟩)
    clear h4
    go_enter Tryd.func23, Tryd.ntmps23
    go_wp2_with fail
    generalize ((w.alloc (.cells #[.int .i64 4, .int .i64 o] 51)).alloc (.cells #[.int .i64 0, .int .i64 0, .string ⟨#[]⟩, .slice none 0 0] 31)).alloc (.cells #[.string ⟨#[]⟩, .string ⟨#[97]⟩, .string ⟨#[98, 99]⟩, .string ⟨#[195, 169, 116, 195, 169]⟩, .string ⟨#[97, 32, 98]⟩, .string ⟨#[122, 122, 32, 116, 111, 112]⟩, .string ⟨#[48]⟩, .string ⟨#[45, 55]⟩] 9) = W3 at HS ⊢
    refine (HP.out _).mono ?_
    rintro e W4 ⟨rfl, rfl⟩
    obtain ⟨⟨e0, e1, e2, e3⟩, g0, g1, g2, g3⟩ := HS.out.out.facts
    go_wp2_with fail
    obtain ⟨hV, hB⟩ := HS.out.fin 0 0 ⟨#[]⟩
    unfold putBox at hV hB
    generalize (((W3.setCell ⟨w.heap.size + 1, 0, none⟩ (.int .i64 0)).setCell ⟨w.heap.size + 1, 1, none⟩ (.int .i64 0)).setCell ⟨w.heap.size + 1, 2, none⟩ (.string ⟨#[]⟩)).setCell ⟨w.heap.size + 1, 3, none⟩ (.slice none 0 0) = W9 at hV hB ⊢
    obtain ⟨⟨x0, x1, x2, x3⟩, _⟩ := hV.facts
    exact bodyPost_ret (v := valV 0 0 ⟨#[]⟩ (.slice none 0 0)) (by simp [results, Tryd.results23, go_sem, x0, x1, x2, x3]) rfl ⟨rfl, hB⟩
  · have d4 : (r == 4) = false := by rw [beq_eq_false_iff_ne]; exact h4
    refine (show Calls Tryd.prog 23 #[.agg #[.int .i64 4, .int .i64 o], .int .i64 n, .int .i64 many] w (fun e w' => e = .returned (valV 4 (1 + q) ⟨#[]⟩ (.slice none 0 0)) ∧ Below w.heap.size w w') from ?_).mono (fun e w' h => ⟨by rw [if_neg h4]; exact h.1, h.2⟩)
    clear h4
    go_enter Tryd.func23, Tryd.ntmps23
    go_wp2_with fail
    generalize ((w.alloc (.cells #[.int .i64 4, .int .i64 o] 51)).alloc (.cells #[.int .i64 0, .int .i64 0, .string ⟨#[]⟩, .slice none 0 0] 31)).alloc (.cells #[.string ⟨#[]⟩, .string ⟨#[97]⟩, .string ⟨#[98, 99]⟩, .string ⟨#[195, 169, 116, 195, 169]⟩, .string ⟨#[97, 32, 98]⟩, .string ⟨#[122, 122, 32, 116, 111, 112]⟩, .string ⟨#[48]⟩, .string ⟨#[45, 55]⟩] 9) = W3 at HS ⊢
    refine (HP.out _).mono ?_
    rintro e W4 ⟨rfl, rfl⟩
    obtain ⟨⟨e0, e1, e2, e3⟩, g0, g1, g2, g3⟩ := HS.out.out.facts
    obtain ⟨t0, t1⟩ := HS.out.tb.facts
    have t2 : W3.drew.cell? ⟨w.heap.size, 0, none⟩ = some (.int .i64 4) := t0
    go_wp2_with fail
    refine wp_region_T (fun W : World => W.cell? ⟨w.heap.size, 0, none⟩ = some (.int .i64 4)) (fun j => j == 7) (by kernel_rfl) ?_
    refine wpAnyT_take (i := 0) (v := ?v0) rfl (by kernel_rfl) (by kernel_rfl) (by kernel_rfl) (by kernel_rfl) (by kernel_rfl) (fun _ _ _ h => h) (Or.inl ⟨by rfl, ?y0⟩) (t2) ?r0
    case y0 => (intro w hSw; (try dsimp only at hSw); go_simp; try with_reducible rfl)
    try simp only [Act.put, List.setIfInBounds_toArray, List.set_cons_zero, List.set_cons_succ, List.getElem_toArray, List.getElem_cons_succ, List.getElem_cons_zero]
    refine wpAnyT_take (i := 1) (v := ?v1) rfl (by kernel_rfl) (by kernel_rfl) (by kernel_rfl) (by kernel_rfl) (by kernel_rfl) (fun _ _ _ h => h) (Or.inl ⟨by rfl, ?y1⟩) (t2) ?r1
    case y1 => (intro w hSw; (try dsimp only at hSw); go_simp; try with_reducible rfl)
    try simp only [Act.put, List.setIfInBounds_toArray, List.set_cons_zero, List.set_cons_succ, List.getElem_toArray, List.getElem_cons_succ, List.getElem_cons_zero]
    refine wpAnyT_take (i := 2) (v := ?v2) rfl (by kernel_rfl) (by kernel_rfl) (by kernel_rfl) (by kernel_rfl) (by kernel_rfl) (fun _ _ _ h => h) (Or.inl ⟨by rfl, ?y2⟩) (t2) ?r2
    case y2 => (intro w hSw; (try dsimp only at hSw); go_simp; try with_reducible rfl)
    try simp only [Act.put, List.setIfInBounds_toArray, List.set_cons_zero, List.set_cons_succ, List.getElem_toArray, List.getElem_cons_succ, List.getElem_cons_zero]
    refine wpAnyT_take (i := 3) (v := ?v3) rfl (by kernel_rfl) (by kernel_rfl) (by kernel_rfl) (by kernel_rfl) (by kernel_rfl) (fun _ _ _ h => h) (Or.inl ⟨by rfl, ?y3⟩) (t2) ?r3
    case y3 => (intro w hSw; (try dsimp only at hSw); go_simp; try with_reducible rfl)
    try simp only [Act.put, List.setIfInBounds_toArray, List.set_cons_zero, List.set_cons_succ, List.getElem_toArray, List.getElem_cons_succ, List.getElem_cons_zero]
    refine wpAnyT_run (i := 4) (by kernel_rfl) rfl (fun K hK => ?_)
    go_simp
    (refine (HQ.out _).mono ?_; rintro e Y1 ⟨rfl, rfl⟩)
    go_wp2_with fail
    refine hK.out _ _ (fun _ => t2) ?_
    clear hK K
    try simp only [Act.put, List.setIfInBounds_toArray, List.set_cons_zero, List.set_cons_succ, List.getElem_toArray, List.getElem_cons_succ, List.getElem_cons_zero]
    refine wpAnyT_run (i := 5) (by kernel_rfl) rfl (fun K hK => ?_)
    go_simp
    refine hK.out _ _ (fun _ => t2) ?_
    clear hK K
    try simp only [Act.put, List.setIfInBounds_toArray, List.set_cons_zero, List.set_cons_succ, List.getElem_toArray, List.getElem_cons_succ, List.getElem_cons_zero]
    refine wpAnyT_run (i := 6) (by kernel_rfl) rfl (fun K hK => ?_)
    go_simp
    refine hK.out _ _ (fun _ => t2) ?_
    clear hK K
    try simp only [Act.put, List.setIfInBounds_toArray, List.set_cons_zero, List.set_cons_succ, List.getElem_toArray, List.getElem_cons_succ, List.getElem_cons_zero]
    refine wpAnyT_run (i := 7) (by kernel_rfl) rfl (fun K hK => ?_)
    go_simp
    refine hK.out _ _ (fun h => absurd h (by decide)) ?_
    clear hK K
    try simp only [Act.put, List.setIfInBounds_toArray, List.set_cons_zero, List.set_cons_succ, List.getElem_toArray, List.getElem_cons_succ, List.getElem_cons_zero]
    refine wpAnyT_done (by kernel_rfl) ?_ _
    obtain ⟨hV, hB⟩ := HS.out.fin 4 (1 + q) ⟨#[]⟩
    have hV' := hV.below (Below.refl _ _).drew
    have hB' := hB.drew
    unfold putBox at hV' hB'
    go_wp2_with fail
    obtain ⟨⟨x0, x1, x2, x3⟩, _⟩ := hV'.facts
    exact bodyPost_ret (v := valV 4 (1 + q) ⟨#[]⟩ (.slice none 0 0)) (by simp [results, Tryd.results23, go_sem, x0, x1, x2, x3]) rfl ⟨rfl, hB'⟩

/-- ValOf of a type that is no list's -/
theorem valOf4_flat (k o n many : Int) (hk : 1 ≤ k ∧ k ≤ 4) (hn : -9223372036854775808 ≤ n ∧ n ≤ 9223372036854775807) (hm : 1 ≤ many ∧ many ≤ 1000) (w : World) :
    Calls Tryd.prog 23 #[.agg #[.int .i64 k, .int .i64 o], .int .i64 n, .int .i64 many] w fun e w' => e = .returned (itOf (vFlat k n many)).v ∧ Below w.heap.size w w' := by
  have hc : k = 1 ∨ k = 2 ∨ k = 3 ∨ k = 4 := by omega
  rcases hc with rfl | rfl | rfl | rfl
  · exact valOf4_num o n many hn w
  · exact valOf4_text o n many hn w
  · refine (valOf4_ref o n many hn hm w).mono ?_
    rintro e w' ⟨rfl, h⟩
    refine ⟨?_, h⟩
    unfold vFlat
    rw [if_neg (show ¬ (3 : Int) = 1 by decide), if_neg (show ¬ (3 : Int) = 2 by decide)]
    split <;> rfl
  · refine (valOf4_weak o n many hn hm w).mono ?_
    rintro e w' ⟨rfl, h⟩
    refine ⟨?_, h⟩
    unfold vFlat
    rw [if_neg (show ¬ (4 : Int) = 1 by decide), if_neg (show ¬ (4 : Int) = 2 by decide)]
    split <;> rfl
end Go.Proofs.YtffoklhopmhjaaaDoor

/- Cells of fields, and of values, one of which is turned; rows of one's own that are stored into. -/
set_option linter.unusedSimpArgs false
set_option linter.unusedVariables false
namespace Go.Proofs.YtffoklhopmhjaaaDoor
open Go Go.RowKit Go.Shelf

theorem flCells_set : ∀ (fs : List Fl) (k : Nat) (h : k < fs.length) (j : Nat) (hj : j < 4) (u : Value) (f : Fl), f.cells = (fs[k].cells).set j u → (flCells fs).set (k * 4 + j) u = flCells (fs.set k f)
  | g :: fs, 0, h, j, hj, u, f, he => by
    show (g.cells ++ flCells fs).set (0 * 4 + j) u = f.cells ++ flCells fs
    rw [Nat.zero_mul, Nat.zero_add, List.set_append_left _ _ (by simpa using hj), he]; rfl
  | g :: fs, k + 1, h, j, hj, u, f, he => by
    show (g.cells ++ flCells fs).set ((k + 1) * 4 + j) u = g.cells ++ flCells (fs.set k f)
    rw [List.set_append_right _ _ (by simp; omega), show (k + 1) * 4 + j - g.cells.length = k * 4 + j from by simp; omega, flCells_set fs k (by simpa using h) j hj u f he]
theorem itsCells_set : ∀ (ys : List It) (k : Nat) (h : k < ys.length) (j : Nat) (hj : j < 4) (u : Value) (y : It), y.cells = (ys[k].cells).set j u → (itsCells ys).set (k * 4 + j) u = itsCells (ys.set k y)
  | g :: ys, 0, h, j, hj, u, y, he => by
    show (g.cells ++ itsCells ys).set (0 * 4 + j) u = y.cells ++ itsCells ys
    rw [Nat.zero_mul, Nat.zero_add, List.set_append_left _ _ (by simpa using hj), he]; rfl
  | g :: ys, k + 1, h, j, hj, u, y, he => by
    show (g.cells ++ itsCells ys).set ((k + 1) * 4 + j) u = g.cells ++ itsCells (ys.set k y)
    rw [List.set_append_right _ _ (by simp; omega), show (k + 1) * 4 + j - g.cells.length = k * 4 + j from by simp; omega, itsCells_set ys k (by simpa using h) j hj u y he]
/-- all four cells of a value in a row -/
theorem itsCells_put (ys : List It) (k : Nat) (h : k < ys.length) (y : It) : ((((itsCells ys).set (k * 4) (.int .i64 y.k)).set (k * 4 + 1) (.int .i64 y.n)).set (k * 4 + 2) (.string y.s)).set (k * 4 + 3) (.slice y.p y.m y.c) = itsCells (ys.set k y) := by
  have h0 := itsCells_set ys k h 0 (by decide) (.int .i64 y.k) ⟨y.k, ys[k].n, ys[k].s, ys[k].p, ys[k].m, ys[k].c⟩ rfl
  have h1 := itsCells_set (ys.set k ⟨y.k, ys[k].n, ys[k].s, ys[k].p, ys[k].m, ys[k].c⟩) k (by simpa using h) 1 (by decide) (.int .i64 y.n) ⟨y.k, y.n, ys[k].s, ys[k].p, ys[k].m, ys[k].c⟩ (by rw [List.getElem_set_self]; rfl)
  rw [List.set_set] at h1
  have h2 := itsCells_set (ys.set k ⟨y.k, y.n, ys[k].s, ys[k].p, ys[k].m, ys[k].c⟩) k (by simpa using h) 2 (by decide) (.string y.s) ⟨y.k, y.n, y.s, ys[k].p, ys[k].m, ys[k].c⟩ (by rw [List.getElem_set_self]; rfl)
  rw [List.set_set] at h2
  have h3 := itsCells_set (ys.set k ⟨y.k, y.n, y.s, ys[k].p, ys[k].m, ys[k].c⟩) k (by simpa using h) 3 (by decide) (.slice y.p y.m y.c) y (by rw [List.getElem_set_self]; rfl)
  rw [List.set_set] at h3
  rw [Nat.add_zero] at h0
  rw [h0, h1, h2, h3]

/-- a row of fields of one's own -/
structure FOwn (base : Nat) (W : World) (g n c : Nat) (fs : List Fl) : Prop where
  len : n = fs.length
  row : W.ownsRow base 53 4 (.slice (some ⟨g, 0, none⟩) n c) n (flCells fs)
theorem FOwn.lies {base : Nat} {W : World} {g n c : Nat} {fs : List Fl} (h : FOwn base W g n c fs) : FLies W (some ⟨g, 0, none⟩) n c fs := by
  obtain ⟨rfl, h2⟩ := h
  exact ⟨rfl, Lies.own h2⟩
theorem FOwn.lt {base : Nat} {W : World} {g n c : Nat} {fs : List Fl} (h : FOwn base W g n c fs) : base ≤ g ∧ g < W.heap.size := h.row.lt g rfl
theorem FOwn.below {base : Nat} {W W' : World} {g n c : Nat} {fs : List Fl} (h : FOwn base W g n c fs) (hb : Below W.heap.size W W') : FOwn base W' g n c fs := ⟨h.len, owned_below h.row hb⟩
theorem FOwn.cell {base : Nat} {W : World} {g n c : Nat} {fs : List Fl} (h : FOwn base W g n c fs) (k : Nat) (hk : k < fs.length) (j : Nat) (v : Value) (hv : (fs[k].cells)[j]? = some v) : W.cell? ⟨g, k * 4 + j, none⟩ = some v :=
  owned_cell h.row (k * 4 + j) v (flCells_at fs k hk j v hv)
theorem FOwn.free {base : Nat} {W : World} {g n c : Nat} {fs : List Fl} (h : FOwn base W g n c fs) (j : Nat) : W.frozen? ⟨g, j, none⟩ = false := h.row.frozenAt j
theorem FOwn.set {base : Nat} {W : World} {g n c : Nat} {fs : List Fl} (h : FOwn base W g n c fs) (k : Nat) (hk : k < fs.length) (j : Nat) (hj : j < 4) (u : Value) (f : Fl) (hf : f.cells = (fs[k].cells).set j u) :
    FOwn base (W.setCell ⟨g, k * 4 + j, none⟩ u) g n c (fs.set k f) := by
  obtain ⟨e, h2⟩ := h
  have h3 := (h2.stored (k * 4 + j) u).1
  rw [flCells_set fs k hk j hj u f hf] at h3
  exact ⟨by rw [List.length_set]; exact e, h3⟩
/-- a row of values of one's own -/
structure VOwn (base : Nat) (W : World) (g n c : Nat) (ys : List It) : Prop where
  len : n = ys.length
  row : W.ownsRow base 31 4 (.slice (some ⟨g, 0, none⟩) n c) n (itsCells ys)
theorem VOwn.lt {base : Nat} {W : World} {g n c : Nat} {ys : List It} (h : VOwn base W g n c ys) : base ≤ g ∧ g < W.heap.size := h.row.lt g rfl
theorem VOwn.below {base : Nat} {W W' : World} {g n c : Nat} {ys : List It} (h : VOwn base W g n c ys) (hb : Below W.heap.size W W') : VOwn base W' g n c ys := ⟨h.len, owned_below h.row hb⟩
theorem VOwn.free {base : Nat} {W : World} {g n c : Nat} {ys : List It} (h : VOwn base W g n c ys) (j : Nat) : W.frozen? ⟨g, j, none⟩ = false := h.row.frozenAt j
theorem VOwn.put {base : Nat} {W : World} {g n c : Nat} {ys : List It} (h : VOwn base W g n c ys) (k : Nat) (hk : k < ys.length) (y : It) :
    VOwn base ((((W.setCell ⟨g, k * 4, none⟩ (.int .i64 y.k)).setCell ⟨g, k * 4 + 1, none⟩ (.int .i64 y.n)).setCell ⟨g, k * 4 + 2, none⟩ (.string y.s)).setCell ⟨g, k * 4 + 3, none⟩ (.slice y.p y.m y.c)) g n c (ys.set k y) := by
  obtain ⟨e, h2⟩ := h
  have h3 := ((((h2.stored (k * 4) (.int .i64 y.k)).1.stored (k * 4 + 1) (.int .i64 y.n)).1.stored (k * 4 + 2) (.string y.s)).1.stored (k * 4 + 3) (.slice y.p y.m y.c)).1
  rw [itsCells_put ys k hk y] at h3
  exact ⟨by rw [List.length_set]; exact e, h3⟩

/-- what ClassOnce tells of a class with one thing turned -/
theorem once_twice {nm : ByteArray} {fs : List Fl} (hok : (Cl.mk nm fs).ok = true) (k : Nat) (hk : k < fs.length) : (Cl.mk nm (fs ++ [⟨fs[k].nm, 1, 0, false⟩])).ok = false := twice_bad nm (good_of_ok hok) k hk _ rfl
theorem once_odd {nm : ByteArray} {fs : List Fl} (hok : (Cl.mk nm fs).ok = true) (hs : ∀ f ∈ fs, f.nm.size ≤ 8) (k : Nat) (hk : k < fs.length) (b : UInt8) :
    (Cl.mk nm (fs.set k { fs[k] with nm := fs[k].nm ++ ⟨#[b]⟩ })).ok = (inNm b && (fieldAt fs (fs[k].nm ++ ⟨#[b]⟩)).isNone) := by
  have hp := Cl.ok_parts hok
  have hn : nmOk nm.data.toList = true := by
    unfold Cl.ok at hok
    rw [Bool.and_eq_true, Bool.and_eq_true] at hok
    exact hok.1.1
  rw [other_name hn (good_of_ok hok) hp.2.1 k hk _ (fun e => by
    have h2 : (fs[k].nm ++ (⟨#[b]⟩ : ByteArray)).size = fs[k].nm.size := congrArg ByteArray.size e
    rw [ByteArray.size_append] at h2
    have h3 : (⟨#[b]⟩ : ByteArray).size = 1 := rfl
    omega)]
  congr 1
  obtain ⟨_, _, h1, h2, _⟩ := Fl.ok_parts (hp.2.2 k hk).1
  have h4 := (hp.2.2 k hk).1
  have hsz := hs _ (List.getElem_mem hk)
  unfold Fl.ok at h4 ⊢
  rw [Bool.and_eq_true, Bool.and_eq_true] at h4
  show (nmOk (fs[k].nm ++ (⟨#[b]⟩ : ByteArray)).data.toList && rtB fs[k].k fs[k].o && (!fs[k].ix || mayIx fs[k].k)) = inNm b
  have e : (fs[k].nm ++ (⟨#[b]⟩ : ByteArray)).data.toList = fs[k].nm.data.toList ++ [b] := by simp [ByteArray.data_append]
  rw [h4.1.2, h4.2, Bool.and_true, Bool.and_true, e]
  exact nmOk_snoc (show nmOk fs[k].nm.data.toList = true from h1) (show fs[k].nm.data.toList.length ≤ 19 by rw [nm_size]; omega) b
theorem once_wide (nm : ByteArray) {fs : List Fl} (k : Nat) (hk : k < fs.length) : (Cl.mk nm (fs.set k { fs[k] with k := 5, o := 1, ix := true })).ok = false := by
  refine bad_field nm k (by simpa using hk) ?_
  rw [List.getElem_set_self]
  show (nmOk _ && rtB 5 1 && (!true || mayIx 5)) = false
  rw [show (!true || mayIx 5) = false from rfl, Bool.and_false]
theorem once_flat {nm : ByteArray} {fs : List Fl} (hok : (Cl.mk nm fs).ok = true) (k : Nat) (hk : k < fs.length) : (Cl.mk nm (fs.set k { fs[k] with k := 5, o := 1, ix := false })).ok = true := by
  have hp := Cl.ok_parts hok
  have hn : nmOk nm.data.toList = true := by
    unfold Cl.ok at hok
    rw [Bool.and_eq_true, Bool.and_eq_true] at hok
    exact hok.1.1
  refine same_name hn (good_of_ok hok) hp.2.1 k hk _ ?_ rfl
  obtain ⟨_, _, h1, h2, _⟩ := Fl.ok_parts (hp.2.2 k hk).1
  show (nmOk fs[k].nm.data.toList && rtB 5 1 && (!false || mayIx 5)) = true
  rw [h1]; rfl
theorem once_place {nm : ByteArray} {fs : List Fl} (hok : (Cl.mk nm fs).ok = true) (k : Nat) (hk : k < fs.length) : fieldAt fs fs[k].nm = some k := ((Cl.ok_parts hok).2.2 k hk).2
theorem clsOf_names (x : CRaw) : ∀ f ∈ (clsOf x).fs, f.nm.size ≤ 8 := flds_name_len x.l 6
end Go.Proofs.YtffoklhopmhjaaaDoor

/- morainelaw04.ValOf: lists. -/
set_option linter.unusedSimpArgs false
set_option linter.unusedVariables false
namespace Go.Proofs.YtffoklhopmhjaaaDoor
open Go Go.RowKit Go.Shelf

theorem infoVal4 : (Tryd.prog.info? 31).map (fun i => (i.zero, i.size, i.bytes)) = some (some (.agg #[.int .i64 0, .int .i64 0, .string ⟨#[]⟩, .slice none 0 0]), 4, 56) := by kernel_rfl
theorem its_app (xs ys : List It) : itsCells (xs ++ ys) = itsCells xs ++ itsCells ys := by
  induction xs with
  | nil => rfl
  | cons x xs ih => show x.cells ++ itsCells (xs ++ ys) = (x.cells ++ itsCells xs) ++ itsCells ys; rw [ih, List.append_assoc]
theorem lies_over {W : World} {v : Value} {n size : Nat} {xs : List Value} (h : Lies W v n size xs) (q : Addr) (hne : ∀ a m c, v = .slice (some a) m c → a.block ≠ q.block) (u : Value) : Lies (W.setCell q u) v n size xs := by
  obtain ⟨h1, h2 | ⟨b, off, c, hv, hlt, hc⟩⟩ := h
  · exact ⟨h1, .inl h2⟩
  · refine ⟨h1, .inr ⟨b, off, c, hv, by simpa using hlt, fun j u' hu => ?_⟩⟩
    rw [World.cell?_of_block (Below.heap_setCell W q u b (hne _ _ _ hv))]
    exact hc j u' hu
theorem vat_items {W : World} {p : Option Addr} {c : Nat} {us : List V} (hl : us.length ≤ 12) (hf : ∀ u ∈ us, u.fine ∧ u.l = []) (hL : Lies W (.slice p us.length c) us.length 4 (itsCells (us.map itOf))) : VAt 1 W (.mk 5 0 ⟨#[]⟩ us) ⟨5, 0, ⟨#[]⟩, p, us.length, c⟩ := by
  refine ⟨⟨by show (_ : Int) ≤ 5 ∧ (5 : Int) ≤ _; decide, by show (_ : Int) ≤ 0 ∧ (0 : Int) ≤ _; decide, by show (⟨#[]⟩ : ByteArray).size ≤ _; decide, by show us.length ≤ _; omega⟩, rfl, rfl, rfl, us.map itOf, by show (us.map itOf).length = us.length; simp, ?_, fun i h h' => ?_⟩
  · rw [List.length_map]; exact hL
  · rw [List.getElem_map]
    have h2 : i < us.length := h'
    exact vat_none 0 W (hf _ (List.getElem_mem h2)).1 (hf _ (List.getElem_mem h2)).2
/-- what ValOf answers -/
def valOf4Post (k o n many : Int) (w : World) (e : Ending) (w' : World) : Prop :=
  ∃ y : It, e = .returned y.v ∧ VAt 1 w' (vOf k o n many) y ∧ Below w.heap.size w w' ∧ ∀ a, y.p = some a → w.heap.size ≤ a.block ∧ a.block < w'.heap.size
structure VlSt (w : World) (o : Int) (us : List V) (v : Value) (W : World) : Prop where
  tb : TBox W w.heap.size 5 o
  out : VBox W (w.heap.size + 1) 0 0 ⟨#[]⟩ (.slice none 0 0)
  box : VBox W (w.heap.size + 3) 5 0 ⟨#[]⟩ v
  own : W.ownsRow (w.heap.size + 4) 31 4 v us.length (itsCells (us.map itOf))
  below : Below w.heap.size w W
section
variable {w : World} {o : Int} {us : List V} {v : Value} {W W' : World}
theorem VlSt.go (h : VlSt w o us v W) (hb : Below W.heap.size W W') : VlSt w o us v W' := ⟨h.tb.below hb, h.out.below hb, h.box.below hb, owned_below h.own hb, h.below.trans (hb.mono h.below.size)⟩
theorem VlSt.next {v' : Value} {u : V} (h : VlSt w o us v W) (hg : W.grownBy W' v.ownBlock)
    (hown : W'.ownsRow (w.heap.size + 4) 31 4 v' (us.length + 1) (itsCells (us.map itOf) ++ [.int .i64 u.k, .int .i64 u.n, .string u.s, .slice none 0 0])) : VlSt w o (us ++ [u]) v' (W'.setCell ⟨w.heap.size + 3, 3, none⟩ v') := by
  obtain ⟨h1, h2, h3, h4, h5⟩ := h
  have hgo : ∀ g, v.ownBlock = some g → w.heap.size + 4 ≤ g := fun g hg' => (h4.lt g hg').1
  have k1 : TBox W' w.heap.size 5 o := (hg.block _ h1.lt (fun e => by have := hgo _ e.symm; omega)).trans h1
  have k2 : VBox W' (w.heap.size + 1) 0 0 ⟨#[]⟩ (.slice none 0 0) := (hg.block _ h2.lt (fun e => by have := hgo _ e.symm; omega)).trans h2
  have k3 : VBox W' (w.heap.size + 3) 5 0 ⟨#[]⟩ v := (hg.block _ h3.lt (fun e => by have := hgo _ e.symm; omega)).trans h3
  have k5 : Below w.heap.size w W' := h5.grown hg h5.size (fun g hg' => by have := hgo g hg'; omega)
  refine ⟨k1.past _ (by show w.heap.size ≠ w.heap.size + 3; omega) _, k2.past _ (by show w.heap.size + 1 ≠ w.heap.size + 3; omega) _, k3.set3 v', ?_, k5.setCell (p := ⟨w.heap.size + 3, 3, none⟩) (by show w.heap.size ≤ w.heap.size + 3; omega) _⟩
  have e : itsCells ((us ++ [u]).map itOf) = itsCells (us.map itOf) ++ [.int .i64 u.k, .int .i64 u.n, .string u.s, .slice none 0 0] := by
    rw [List.map_append, its_app]; rfl
  rw [e, List.length_append, List.length_singleton]
  refine hown.kept (row := some (w.heap.size + 3)) ⟨rfl, rfl, rfl, by simp, fun k hk hne => Below.heap_setCell W' ⟨w.heap.size + 3, 3, none⟩ v' k (fun e => hne (by rw [e]))⟩ ?_
  rcases hown.2 with ⟨rfl, _⟩ | ⟨g, cap, cur, rfl, hg, _⟩
  · exact .inl rfl
  · exact .inr (fun e => by have e2 : g = w.heap.size + 3 := Option.some.inj e; omega)
end
theorem tdiv4_bd {n : Int} (hn : -9223372036854775808 ≤ n ∧ n ≤ 9223372036854775807) : -2305843009213693952 ≤ n.tdiv 4 ∧ n.tdiv 4 ≤ 2305843009213693951 := by
  rcases Int.le_total 0 n with h | h
  · rw [Int.tdiv_eq_ediv_of_nonneg h]; omega
  · have e : n.tdiv 4 = -((-n) / 4) := by rw [← Int.tdiv_eq_ediv_of_nonneg (by omega : 0 ≤ -n), Int.neg_tdiv]; omega
    rw [e]; omega

set_option maxHeartbeats 8000000 in
set_option maxRecDepth 100000 in
theorem valOf4_list (o n many : Int) (ho : 1 ≤ o ∧ o ≤ 4) (hn : -9223372036854775808 ≤ n ∧ n ≤ 9223372036854775807) (hm : 1 ≤ many ∧ many ≤ 1000) (w : World) :
    Calls Tryd.prog 23 #[.agg #[.int .i64 5, .int .i64 o], .int .i64 n, .int .i64 many] w (valOf4Post 5 o n many w) := by
  obtain ⟨i0, hi, hz0, hz1, hz2⟩ := info_parts infoVal4
  have hp := fun W => pick4_any n 4 hn.1 hn.2 (by decide) (by decide) W
  have hb := pickI_bd n 4 (by decide)
  have hd4 := tdiv4_bd hn
  have hof : vOf 5 o n many = .mk 5 0 ⟨#[]⟩ (vItems o n many (pickI n 4).toNat) := by unfold vOf; rw [if_pos rfl]
  have hone : ∀ (i : Nat) (hi : i < 4) W, Calls Tryd.prog 23 #[.agg #[.int .i64 o, .int .i64 0], .int .i64 (n.tdiv 4 + (i : Int)), .int .i64 many] W fun e w' => e = .returned (itOf (vFlat o (n.tdiv 4 + (i : Int)) many)).v ∧ Below W.heap.size W w' := fun i hi W =>
    valOf4_flat o 0 _ many ho (by omega) hm W
  have hsucc := vItems_succ o n many
  have hlen := vItems_len o n many
  have hflat : ∀ m, ∀ u ∈ vItems o n many m, u.fine ∧ u.l = [] := fun m u hu => by
    unfold vItems at hu
    obtain ⟨j, _, rfl⟩ := List.mem_map.1 hu
    exact ⟨vFlat_fine ho _ hm, vFlat_l _ _ _⟩
  have hS : VlSt w o (vItems o n many 0) (.slice none 0 0) ((((w.alloc (.cells #[.int .i64 5, .int .i64 o] 51)).alloc (.cells #[.int .i64 0, .int .i64 0, .string ⟨#[]⟩, .slice none 0 0] 31)).alloc (.cells #[.string ⟨#[]⟩, .string ⟨#[97]⟩, .string ⟨#[98, 99]⟩, .string ⟨#[195, 169, 116, 195, 169]⟩, .string ⟨#[97, 32, 98]⟩, .string ⟨#[122, 122, 32, 116, 111, 112]⟩, .string ⟨#[48]⟩, .string ⟨#[45, 55]⟩] 9)).alloc (.cells #[.int .i64 5, .int .i64 0, .string ⟨#[]⟩, .slice none 0 0] 31)) := by
    have h := VoSt.new w 5 o
    unfold vtexts8 at h
    refine ⟨h.tb.alloc _, h.out.alloc _, ?_, World.ownsRow_nil _ _ _ _, h.below.alloc h.below.size _⟩
    have h2 := VBox.new (((w.alloc (.cells #[.int .i64 5, .int .i64 o] 51)).alloc (.cells #[.int .i64 0, .int .i64 0, .string ⟨#[]⟩, .slice none 0 0] 31)).alloc (.cells #[.string ⟨#[]⟩, .string ⟨#[97]⟩, .string ⟨#[98, 99]⟩, .string ⟨#[195, 169, 116, 195, 169]⟩, .string ⟨#[97, 32, 98]⟩, .string ⟨#[122, 122, 32, 116, 111, 112]⟩, .string ⟨#[48]⟩, .string ⟨#[45, 55]⟩] 9)) 5 0 ⟨#[]⟩ (.slice none 0 0)
    rwa [World.size_alloc, World.size_alloc, World.size_alloc] at h2
  rw [show valOf4Post 5 o n many w = fun e w' => ∃ y : It, e = .returned y.v ∧ VAt 1 w' (.mk 5 0 ⟨#[]⟩ (vItems o n many (pickI n 4).toNat)) y ∧ Below w.heap.size w w' ∧ ∀ a, y.p = some a → w.heap.size ≤ a.block ∧ a.block < w'.heap.size from by funext e w'; unfold valOf4Post; rw [hof]]
  clear hof
  obtain ⟨m, hm4⟩ : ∃ m : Nat, pickI n 4 = (m : Int) := ⟨(pickI n 4).toNat, by omega⟩
  rw [hm4] at hp hb ⊢
  rw [Int.toNat_natCast]
  have hml : m < 4 := by omega
  have hwd : IntKind.i64.wrap (n.tdiv 4) = n.tdiv 4 := IntWalk.i64_in _ (by omega)
  have hwi : ∀ i : Nat, i < 4 → IntKind.i64.wrap (n.tdiv 4 + (i : Int)) = n.tdiv 4 + (i : Int) := fun i h => IntWalk.i64_in _ (by omega)
  have HP := Lib.hid hp
  have HONE := Lib.hid hone
  have HSUCC := Lib.hid hsucc
  have HLEN := Lib.hid hlen
  have HFLAT := Lib.hid hflat
  have HS := Lib.hid hS
  have HWI := Lib.hid hwi
  clear hp hone hsucc hlen hflat hS hwi hb hm4 hd4 hn hm
  go_enter Tryd.func23, Tryd.ntmps23
  go_wp2_with fail
  generalize (((w.alloc (.cells #[.int .i64 5, .int .i64 o] 51)).alloc (.cells #[.int .i64 0, .int .i64 0, .string ⟨#[]⟩, .slice none 0 0] 31)).alloc (.cells #[.string ⟨#[]⟩, .string ⟨#[97]⟩, .string ⟨#[98, 99]⟩, .string ⟨#[195, 169, 116, 195, 169]⟩, .string ⟨#[97, 32, 98]⟩, .string ⟨#[122, 122, 32, 116, 111, 112]⟩, .string ⟨#[48]⟩, .string ⟨#[45, 55]⟩] 9)).alloc (.cells #[.int .i64 5, .int .i64 0, .string ⟨#[]⟩, .slice none 0 0] 31) = W3 at HS ⊢
  go_loopw [9] (fun s wr => ∃ (i : Nat) (v : Value), i ≤ m ∧ s = .int .i64 (i : Int) ∧ VlSt w o (vItems o n many i) v wr) (fun s _ => 4 - (intOf s).toNat)
  case atStart => exact ⟨0, _, by omega, rfl, HS.out⟩
  case round =>
    obtain ⟨i, v, him, rfl, hst⟩ := hrel
    clear HS
    obtain ⟨vp, vc, hv⟩ : ∃ vp vc, v = .slice vp i vc := by
      have hown := hst.own
      rw [HLEN.out] at hown
      rcases hown.2 with ⟨h, h'⟩ | ⟨g, cap, _, h, _⟩
      · exact ⟨none, 0, by rw [h, h']⟩
      · exact ⟨_, _, h⟩
    subst hv
    go_wp2_with fail
    refine (HP.out _).mono ?_
    rintro e W4 ⟨rfl, rfl⟩
    obtain ⟨tk0, tk1⟩ := hst.tb.facts
    obtain ⟨⟨c0, c1, c2, c3⟩, f0, f1, f2, f3⟩ := hst.box.facts
    obtain ⟨⟨e0, e1, e2, e3⟩, g0, g1, g2, g3⟩ := hst.out.facts
    have hz := hst.box.lt
    have ST := Lib.hid hst
    clear hst
    by_cases hlt : i < m
    · have d1 : decide ((i : Int) < (m : Int)) = true := decide_eq_true (by omega)
      have d1' : (i : Int) < (m : Int) := by omega
      have hw1 := HWI.out i (by omega)
      have hcall := HONE.out i (by omega)
      have hsucc := HSUCC.out i
      generalize vFlat o (n.tdiv 4 + (i : Int)) many = u at hcall hsucc
      obtain ⟨uk, un, us, ul⟩ := u
      simp only [itOf, V.k, V.n, V.s, It.v] at hcall
      have hsw : ∀ W W' : World, (W.cell? ⟨w.heap.size, 1, none⟩ = some (.int .i64 o) ∧ W.cell? ⟨w.heap.size + 1 + 1 + 1, 3, none⟩ = some (.slice vp i vc) ∧ w.heap.size + 1 + 1 + 1 < W.heap.size) → Below W.heap.size W W' → (W'.cell? ⟨w.heap.size, 1, none⟩ = some (.int .i64 o) ∧ W'.cell? ⟨w.heap.size + 1 + 1 + 1, 3, none⟩ = some (.slice vp i vc) ∧ w.heap.size + 1 + 1 + 1 < W'.heap.size) := by
        rintro W W' ⟨a1, a2, z1⟩ hB
        have hs := hB.size
        exact ⟨(hB.cell (p := ⟨w.heap.size, 1, none⟩) (by show w.heap.size < _; omega)).trans a1, (hB.cell (p := ⟨w.heap.size + 1 + 1 + 1, 3, none⟩) z1).trans a2, by omega⟩
      have hS1 := hsw wr wr.drew ⟨tk1, c3, hz⟩ (Below.refl _ _).drew
      have hgo : ∀ g, (Value.slice vp i vc).ownBlock = some g → w.heap.size + 4 ≤ g := fun g hg' => (ST.out.own.lt g hg').1
      have hvg : ∀ W1 W2, Below wr.drew.heap.size wr.drew W1 → (W1.alloc (.cells #[.int .i64 uk, .int .i64 un, .string us, .slice none 0 0] 31)).grownBy W2 (Value.slice vp i vc).ownBlock → W2.cell? ⟨w.heap.size + 1 + 1 + 1, 3, none⟩ = some (.slice vp i vc) ∧ W2.frozen? ⟨w.heap.size + 1 + 1 + 1, 3, none⟩ = false := fun W1 W2 h hg => by
        have h0 := (((ST.out.go (Below.refl _ _).drew).go h).go ((Below.refl _ W1).alloc (Nat.le_refl _) (.cells #[.int .i64 uk, .int .i64 un, .string us, .slice none 0 0] 31))).box
        have : VBox W2 (w.heap.size + 3) 5 0 ⟨#[]⟩ (.slice vp i vc) := (hg.block _ h0.lt (fun e => by have := hgo _ e.symm; omega)).trans h0
        exact ⟨this.facts.1.2.2.2, this.facts.2.2.2.2⟩
      have howd : ∀ W1, Below wr.drew.heap.size wr.drew W1 → (W1.alloc (.cells #[.int .i64 uk, .int .i64 un, .string us, .slice none 0 0] 31)).ownsRow (w.heap.size + 4) 31 4 (.slice vp i vc) i (itsCells ((vItems o n many i).map itOf)) := fun W1 h => by
        have h4 := ((ST.out.go (Below.refl _ _).drew).go h).own
        rw [HLEN.out] at h4
        exact h4.alloc _
      have hnext : ∀ W1 W2 (v' : Value), Below wr.drew.heap.size wr.drew W1 → (W1.alloc (.cells #[.int .i64 uk, .int .i64 un, .string us, .slice none 0 0] 31)).grownBy W2 (Value.slice vp i vc).ownBlock → W2.ownsRow (w.heap.size + 4) 31 4 v' (i + 1) (itsCells ((vItems o n many i).map itOf) ++ [.int .i64 uk, .int .i64 un, .string us, .slice none 0 0]) → VlSt w o (vItems o n many (i + 1)) v' (W2.setCell ⟨w.heap.size + 3, 3, none⟩ v') := fun W1 W2 v' h1 h2 h3 => by
        rw [hsucc]
        have h4 := ((ST.out.go (Below.refl _ _).drew).go h1).go ((Below.refl _ W1).alloc (Nat.le_refl _) (.cells #[.int .i64 uk, .int .i64 un, .string us, .slice none 0 0] 31))
        exact h4.next (u := .mk uk un us ul) h2 (by rw [HLEN.out]; exact h3)
      have hzd : wr.drew.heap.size = wr.heap.size := rfl
      have HSW := Lib.hid hsw
      have HVG := Lib.hid hvg
      have HOWD := Lib.hid howd
      have HNEXT := Lib.hid hnext
      have HC := Lib.hid hcall
      clear hsw hvg hgo howd hnext hcall hsucc e0 e1 e2 e3 g0 g1 g2 g3 f0 f1 f2 c0 c1 c2
      go_wp2_with fail
      refine wp_region_T (fun W : World => W.cell? ⟨w.heap.size, 1, none⟩ = some (.int .i64 o) ∧ W.cell? ⟨w.heap.size + 1 + 1 + 1, 3, none⟩ = some (.slice vp i vc) ∧ w.heap.size + 1 + 1 + 1 < W.heap.size) (fun j => j == 12 || j == 13 || j == 14) (by kernel_rfl) ?_
      refine wpAnyT_take (i := 0) (v := ?v0) rfl (by kernel_rfl) (by kernel_rfl) (by kernel_rfl) (by kernel_rfl) (by kernel_rfl) (fun _ _ _ h => h) (Or.inl ⟨by rfl, ?y0⟩) (hS1) ?r0
      case y0 => (intro w hSw; (try dsimp only at hSw); go_simp; try with_reducible rfl)
      try simp only [Act.put, List.setIfInBounds_toArray, List.set_cons_zero, List.set_cons_succ, List.getElem_toArray, List.getElem_cons_succ, List.getElem_cons_zero]
      refine wpAnyT_take (i := 1) (v := ?v1) rfl (by kernel_rfl) (by kernel_rfl) (by kernel_rfl) (by kernel_rfl) (by kernel_rfl) (fun _ _ _ h => h) (Or.inl ⟨by rfl, ?y1⟩) (hS1) ?r1
      case y1 => (intro w hSw; (try dsimp only at hSw); go_simp; try with_reducible rfl)
      try simp only [Act.put, List.setIfInBounds_toArray, List.set_cons_zero, List.set_cons_succ, List.getElem_toArray, List.getElem_cons_succ, List.getElem_cons_zero]
      refine wpAnyT_take (i := 2) (v := ?v2) rfl (by kernel_rfl) (by kernel_rfl) (by kernel_rfl) (by kernel_rfl) (by kernel_rfl) (fun _ _ _ h => h) (Or.inl ⟨by rfl, ?y2⟩) (hS1) ?r2
      case y2 => (intro w hSw; (try dsimp only at hSw); go_simp; try with_reducible rfl)
      try simp only [Act.put, List.setIfInBounds_toArray, List.set_cons_zero, List.set_cons_succ, List.getElem_toArray, List.getElem_cons_succ, List.getElem_cons_zero]
      refine wpAnyT_take (i := 3) (v := ?v3) rfl (by kernel_rfl) (by kernel_rfl) (by kernel_rfl) (by kernel_rfl) (by kernel_rfl) (fun _ _ _ h => h) (Or.inl ⟨by rfl, ?y3⟩) (hS1) ?r3
      case y3 => (intro w hSw; (try dsimp only at hSw); go_simp; try with_reducible rfl)
      try simp only [Act.put, List.setIfInBounds_toArray, List.set_cons_zero, List.set_cons_succ, List.getElem_toArray, List.getElem_cons_succ, List.getElem_cons_zero]
      refine wpAnyT_take (i := 4) (v := ?v4) rfl (by kernel_rfl) (by kernel_rfl) (by kernel_rfl) (by kernel_rfl) (by kernel_rfl) (fun _ _ _ h => h) (Or.inl ⟨by rfl, ?y4⟩) (hS1) ?r4
      case y4 => (intro w hSw; (try dsimp only at hSw); go_simp; try with_reducible rfl)
      try simp only [Act.put, List.setIfInBounds_toArray, List.set_cons_zero, List.set_cons_succ, List.getElem_toArray, List.getElem_cons_succ, List.getElem_cons_zero]
      refine wpAnyT_take (i := 5) (v := ?v5) rfl (by kernel_rfl) (by kernel_rfl) (by kernel_rfl) (by kernel_rfl) (by kernel_rfl) (fun _ _ _ h => h) (Or.inl ⟨by rfl, ?y5⟩) (hS1) ?r5
      case y5 => (intro w hSw; (try dsimp only at hSw); go_simp; try with_reducible rfl)
      try simp only [Act.put, List.setIfInBounds_toArray, List.set_cons_zero, List.set_cons_succ, List.getElem_toArray, List.getElem_cons_succ, List.getElem_cons_zero]
      refine wpAnyT_take (i := 6) (v := ?v6) rfl (by kernel_rfl) (by kernel_rfl) (by kernel_rfl) (by kernel_rfl) (by kernel_rfl) (fun _ _ _ h => h) (Or.inl ⟨by rfl, ?y6⟩) (hS1) ?r6
      case y6 => (intro w hSw; (try dsimp only at hSw); go_simp; try with_reducible rfl)
      try simp only [Act.put, List.setIfInBounds_toArray, List.set_cons_zero, List.set_cons_succ, List.getElem_toArray, List.getElem_cons_succ, List.getElem_cons_zero]
      refine wpAnyT_take (i := 7) (v := ?v7) rfl (by kernel_rfl) (by kernel_rfl) (by kernel_rfl) (by kernel_rfl) (by kernel_rfl) (fun _ _ _ h => h) (Or.inl ⟨by rfl, ?y7⟩) (hS1) ?r7
      case y7 => (intro w hSw; (try dsimp only at hSw); go_simp; try with_reducible rfl)
      try simp only [Act.put, List.setIfInBounds_toArray, List.set_cons_zero, List.set_cons_succ, List.getElem_toArray, List.getElem_cons_succ, List.getElem_cons_zero]
      refine wpAnyT_take (i := 8) (v := ?v8) rfl (by kernel_rfl) (by kernel_rfl) (by kernel_rfl) (by kernel_rfl) (by kernel_rfl) (fun _ _ _ h => h) (Or.inl ⟨by rfl, ?y8⟩) (hS1) ?r8
      case y8 => (intro w hSw; (try dsimp only at hSw); go_simp; try with_reducible rfl)
      try simp only [Act.put, List.setIfInBounds_toArray, List.set_cons_zero, List.set_cons_succ, List.getElem_toArray, List.getElem_cons_succ, List.getElem_cons_zero]
      refine wpAnyT_take (i := 9) (v := ?v9) rfl (by kernel_rfl) (by kernel_rfl) (by kernel_rfl) (by kernel_rfl) (by kernel_rfl) (fun _ _ _ h => h) (Or.inl ⟨by rfl, ?y9⟩) (hS1) ?r9
      case y9 => (intro w hSw; (try dsimp only at hSw); go_simp; try with_reducible rfl)
      try simp only [Act.put, List.setIfInBounds_toArray, List.set_cons_zero, List.set_cons_succ, List.getElem_toArray, List.getElem_cons_succ, List.getElem_cons_zero]
      refine wpAnyT_run (i := 10) (by kernel_rfl) rfl (fun K hK => ?_)
      go_simp
      (refine (HC.out _).mono ?_; rintro e W1 ⟨rfl, hB1⟩)
      have hS2 := HSW.out _ _ hS1 hB1
      go_wp2_with fail
      refine hK.out _ _ (fun _ => hS2) ?_
      clear hK K
      try simp only [Act.put, List.setIfInBounds_toArray, List.set_cons_zero, List.set_cons_succ, List.getElem_toArray, List.getElem_cons_succ, List.getElem_cons_zero]
      refine wpAnyT_run (i := 11) (by kernel_rfl) rfl (fun K hK => ?_)
      go_simp
      refine hK.out _ _ (fun _ => HSW.out _ _ hS2 ((Below.refl _ _).alloc (Nat.le_refl _) _)) ?_
      clear hK K
      try simp only [Act.put, List.setIfInBounds_toArray, List.set_cons_zero, List.set_cons_succ, List.getElem_toArray, List.getElem_cons_succ, List.getElem_cons_zero]
      refine wpAnyT_run (i := 12) (by kernel_rfl) rfl (fun K hK => ?_)
      (refine step_append_lies _ (by rfl) _ _ _ (by rfl) (w.heap.size + 4) 31 i0 _ 4 56 Tryd.underlying29 hi hz0 hz1 hz2 rfl (by omega) _ i _ (by rfl) (HOWD.out _ hB1) ⟨W1.heap.size, 0, none⟩ 1 1 [.int .i64 uk, .int .i64 un, .string us, .slice none 0 0] (by rfl) (by rfl) (World.news_of_block (cs := #[.int .i64 uk, .int .i64 un, .string us, .slice none 0 0]) (t := 31) (fr := (0, 0)) (heap_alloc_new W1 _)) (by simp [Value.oneCell']) (by omega) (by simp [maxLen]; omega) (by omega) (by have := hB1.size; simp; omega) (W1.heap.size + 1) (by simp) ?_; intro gg cap w2 hown1 hgrow hat hlt2)
      obtain ⟨q3, q4⟩ := HVG.out _ _ hB1 hgrow
      refine hK.out _ _ (fun h => absurd h (by decide)) ?_
      clear hK K
      try simp only [Act.put, List.setIfInBounds_toArray, List.set_cons_zero, List.set_cons_succ, List.getElem_toArray, List.getElem_cons_succ, List.getElem_cons_zero]
      refine wpAnyT_run (i := 13) (by kernel_rfl) rfl (fun K hK => ?_)
      go_simp
      refine hK.out _ _ (fun h => absurd h (by decide)) ?_
      clear hK K
      try simp only [Act.put, List.setIfInBounds_toArray, List.set_cons_zero, List.set_cons_succ, List.getElem_toArray, List.getElem_cons_succ, List.getElem_cons_zero]
      refine wpAnyT_run (i := 14) (by kernel_rfl) rfl (fun K hK => ?_)
      go_simp
      refine hK.out _ _ (fun h => absurd h (by decide)) ?_
      clear hK K
      try simp only [Act.put, List.setIfInBounds_toArray, List.set_cons_zero, List.set_cons_succ, List.getElem_toArray, List.getElem_cons_succ, List.getElem_cons_zero]
      refine wpAnyT_done (by kernel_rfl) ?_ _
      go_wp2_with fail
      exact ⟨⟨i + 1, _, by omega, by go_num, HNEXT.out _ _ _ hB1 hgrow hown1⟩, by simp [intOf]; omega⟩
    · obtain rfl : i = m := by omega
      have d1 : decide ((i : Int) < (i : Int)) = false := decide_eq_false (by omega)
      go_wp2_with fail
      have hown := ST.out.own
      have hL : Lies wr (.slice vp i vc) i 4 (itsCells ((vItems o n many i).map itOf)) := by
        have := Lies.own hown
        rwa [HLEN.out] at this
      have hne : ∀ a m' c', (Value.slice vp i vc) = .slice (some a) m' c' → w.heap.size + 4 ≤ a.block := fun a m' c' ha => by
        injection ha with h1 _ _
        exact (hown.lt a.block (by rw [h1]; rfl)).1
      have hne2 : ∀ a m' c', (Value.slice vp i vc) = .slice (some a) m' c' → a.block ≠ w.heap.size + 1 := fun a m' c' ha => by have := hne a m' c' ha; omega
      have hL9 := lies_over (lies_over (lies_over (lies_over hL ⟨w.heap.size + 1, 0, none⟩ hne2 (.int .i64 5)) ⟨w.heap.size + 1, 1, none⟩ hne2 (.int .i64 0)) ⟨w.heap.size + 1, 2, none⟩ hne2 (.string ⟨#[]⟩)) ⟨w.heap.size + 1, 3, none⟩ hne2 (.slice vp i vc)
      have hVo := ST.out.out.put 5 0 ⟨#[]⟩ (.slice vp i vc)
      have hBo := below_put ST.out.below (show w.heap.size ≤ w.heap.size + 1 by omega) 5 0 ⟨#[]⟩ (.slice vp i vc)
      unfold putBox at hVo hBo
      have hz9 : ((((wr.setCell ⟨w.heap.size + 1, 0, none⟩ (.int .i64 5)).setCell ⟨w.heap.size + 1, 1, none⟩ (.int .i64 0)).setCell ⟨w.heap.size + 1, 2, none⟩ (.string ⟨#[]⟩)).setCell ⟨w.heap.size + 1, 3, none⟩ (.slice vp i vc)).heap.size = wr.heap.size := by simp [World.setCell]
      have hltt : ∀ a, vp = some a → w.heap.size + 4 ≤ a.block ∧ a.block < wr.heap.size := fun a ha => (hown.lt a.block (by rw [ha]; rfl))
      generalize (((wr.setCell ⟨w.heap.size + 1, 0, none⟩ (.int .i64 5)).setCell ⟨w.heap.size + 1, 1, none⟩ (.int .i64 0)).setCell ⟨w.heap.size + 1, 2, none⟩ (.string ⟨#[]⟩)).setCell ⟨w.heap.size + 1, 3, none⟩ (.slice vp i vc) = W9 at hVo hBo hL9 hz9 ⊢
      obtain ⟨⟨x0, x1, x2, x3⟩, _⟩ := hVo.facts
      have hat := vat_items (W := W9) (p := vp) (c := vc) (us := vItems o n many i) (by rw [HLEN.out]; omega) (HFLAT.out i) (by rw [HLEN.out]; exact hL9)
      rw [HLEN.out] at hat
      exact bodyPost_ret (v := valV 5 0 ⟨#[]⟩ (.slice vp i vc)) (by simp [results, Tryd.results23, go_sem, x0, x1, x2, x3]) rfl ⟨⟨5, 0, ⟨#[]⟩, vp, i, vc⟩, rfl, hat, hBo, fun a ha => by have := hltt a ha; omega⟩
/-- ValOf of a type that may be -/
theorem valOf4_any (k o n many : Int) (hr : rtB k o = true) (hn : -9223372036854775808 ≤ n ∧ n ≤ 9223372036854775807) (hm : 1 ≤ many ∧ many ≤ 1000) (w : World) :
    Calls Tryd.prog 23 #[.agg #[.int .i64 k, .int .i64 o], .int .i64 n, .int .i64 many] w (valOf4Post k o n many w) := by
  unfold rtB at hr
  by_cases h5 : k = 5
  · rw [if_pos h5] at hr
    subst h5
    exact valOf4_list o n many (of_decide_eq_true hr) hn hm w
  · rw [if_neg h5] at hr
    have hk := (of_decide_eq_true hr).1
    refine (valOf4_flat k o n many hk hn hm w).mono ?_
    rintro e w' ⟨rfl, hb⟩
    refine ⟨itOf (vFlat k n many), rfl, ?_, hb, fun a ha => by cases ha⟩
    unfold vOf
    rw [if_neg h5]
    exact vat_none 1 w' (vFlat_fine hk n hm) (vFlat_l k n many)
end Go.Proofs.YtffoklhopmhjaaaDoor

/- The walk of ClassBack. -/
set_option linter.unusedSimpArgs false
set_option linter.unusedVariables false
namespace Go.Proofs.YtffoklhopmhjaaaDoor
open Go Go.RowKit Go.Shelf

theorem cl_wide {c : Cl} (h : c.ok = true) : c.nm.size ≤ 9223372036854775807 ∧ (∀ f ∈ c.fs, f.fine) ∧ c.fs.length ≤ 8 ∧ 1 ≤ c.bytes.length ∧ c.bytes.length ≤ 2000 := by
  obtain ⟨⟨h0, h1⟩, h2, h3⟩ := Cl.ok_parts h
  refine ⟨by omega, fun f hf => ?_, h2, ?_, ?_⟩
  · obtain ⟨i, hi, rfl⟩ := List.getElem_of_mem hf
    obtain ⟨a1, a2, _, _, a3, a4⟩ := Fl.ok_parts (h3 i hi).1
    exact ⟨by omega, ⟨by omega, by omega⟩, ⟨by omega, by omega⟩⟩
  · unfold Cl.bytes txtB
    have := nm_size c.nm
    simp only [List.length_append]
    omega
  · have := clsTo_len (cn := c.nm) (fs := c.fs) h c.fs.length
    rw [clsTo_end] at this
    exact this
theorem min_cut100 (s : ByteArray) : ∃ m : Nat, m ≤ s.size ∧ m ≤ 100 ∧ (if (100 : Int) < (s.size : Int) then (100 : Int) else (s.size : Int)) = (m : Int) ∧ min (s.size : Int) 100 = (m : Int) := by
  by_cases h : 100 < s.size
  · exact ⟨100, by omega, by omega, by rw [if_pos (by omega)]; rfl, by omega⟩
  · exact ⟨s.size, by omega, by omega, by rw [if_neg (by omega)], by omega⟩
open Classical in
theorem sameC_iff (a b : Cl) : sameC a b = true ↔ a = b := by
  unfold sameC
  exact decide_eq_true_iff
/-- what is carried along -/
structure OkB (ea : Addr) (w W : World) : Prop where
  t : Tabs W
  e : errLies ea W
  b : Below w.heap.size w W
theorem OkB.below {ea : Addr} {w W W' : World} (h : OkB ea w W) (hb : Below W.heap.size W W') : OkB ea w W' := ⟨h.t.below hb, h.e.below hb, h.b.trans (hb.mono h.b.size)⟩
/-- a raw class in block b -/
structure CRBox (W : World) (b : Nat) (x : CRaw) (p : Option Addr) (c : Nat) : Prop where
  box : W.heap[b]? = some (.cells #[.int .i64 x.n, .slice p x.l.length c] 24 (0, 0))
  lies : Lies W (.slice p x.l.length c) x.l.length 4 (frawCells x.l)
theorem CRBox.below {W W' : World} {b : Nat} {x : CRaw} {p : Option Addr} {c : Nat} (h : CRBox W b x p c) (hb : Below W.heap.size W W') : CRBox W' b x p c :=
  ⟨(hb.block b (Array.getElem?_eq_some_iff.1 h.box).1).trans h.box, h.lies.below hb⟩
theorem CRBox.facts {W : World} {b : Nat} {x : CRaw} {p : Option Addr} {c : Nat} (h : CRBox W b x p c) : W.cell? ⟨b, 0, none⟩ = some (.int .i64 x.n) ∧ W.cell? ⟨b, 1, none⟩ = some (.slice p x.l.length c) := by
  constructor <;> (rw [Lib.cell_of_heap h.box]; rfl)
/-- a class in block b, with its fields -/
structure ClBox (W : World) (b : Nat) (a : Cl) (q : Option Addr) (c : Nat) : Prop where
  box : CBox W b a.nm q a.fs.length c
  lies : FLies W q a.fs.length c a.fs
theorem ClBox.below {W W' : World} {b : Nat} {a : Cl} {q : Option Addr} {c : Nat} (h : ClBox W b a q c) (hb : Below W.heap.size W W') : ClBox W' b a q c := ⟨h.box.below hb, h.lies.below hb⟩

set_option maxHeartbeats 8000000 in
set_option maxRecDepth 100000 in
theorem clsBack_walk (x : CRaw) (hx : x.fine) (p : Option Addr) (c : Nat) (y : CRaw) (hy : y.fine) (p' : Option Addr) (c' : Nat) (s : ByteArray) (hs : s.size ≤ maxLen) (t : ByteArray) (ht : t.size ≤ maxLen) (k : Int) (hk0 : 0 ≤ k) (hk1 : k ≤ 255) (ea : Addr) (w : World) (hT : Tabs w) (hE : errLies ea w)
    (hL : Lies w (.slice p x.l.length c) x.l.length 4 (frawCells x.l)) (hL' : Lies w (.slice p' y.l.length c') y.l.length 4 (frawCells y.l)) :
    Calls Tryd.prog 4 #[crawV x p c, crawV y p' c', .string s, .string t, .int .u8 k] w fun e w' => e = .returned (.bool true) ∧ Below w.heap.size w w' := by
  have b2 : Below w.heap.size w ((w.alloc (.cells #[.int .i64 x.n, .slice p x.l.length c] 24)).alloc (.cells #[.int .i64 y.n, .slice p' y.l.length c'] 24)) := below_two _ _
  have R0 : CRBox ((w.alloc (.cells #[.int .i64 x.n, .slice p x.l.length c] 24)).alloc (.cells #[.int .i64 y.n, .slice p' y.l.length c'] 24)) w.heap.size x p c :=
    ⟨(Lib.alloc_old _ _ _ (by simp)).trans (World.alloc_heap_new _ _), hL.below b2⟩
  have Q0 : CRBox ((w.alloc (.cells #[.int .i64 x.n, .slice p x.l.length c] 24)).alloc (.cells #[.int .i64 y.n, .slice p' y.l.length c'] 24)) (w.heap.size + 1) y p' c' := by
    refine ⟨?_, hL'.below b2⟩
    have h := World.alloc_heap_new (w.alloc (.cells #[.int .i64 x.n, .slice p x.l.length c] 24)) (.cells #[.int .i64 y.n, .slice p' y.l.length c'] 24)
    rwa [World.size_alloc] at h
  have oka := clsOf_ok x
  have okb := clsOf_ok y
  have hofa := fun W h => clsOf_any x hx p c W h
  have hofb := fun W h => clsOf_any y hy p' c' W h
  unfold clsOfPost at hofa hofb
  generalize clsOf x = a at oka hofa
  generalize clsOf y = b at okb hofb
  obtain ⟨wa1, wa2, wa3, wa4, wa5⟩ := cl_wide oka
  obtain ⟨wb1, wb2, wb3, wb4, wb5⟩ := cl_wide okb
  obtain ⟨P, hP⟩ : ∃ P : ByteArray, (⟨a.bytes.toArray⟩ : ByteArray) = P := ⟨_, rfl⟩
  obtain ⟨Q, hQ⟩ : ∃ Q : ByteArray, (⟨b.bytes.toArray⟩ : ByteArray) = Q := ⟨_, rfl⟩
  have hPl : P.data.toList = a.bytes := by rw [← hP]
  have hQl : Q.data.toList = b.bytes := by rw [← hQ]
  have hPz : P.size = a.bytes.length := by rw [← hPl]; simp
  have hQz : Q.size = b.bytes.length := by rw [← hQl]; simp
  have enca : ∀ W q c, FLies W q a.fs.length c a.fs → Tabs W → Calls Tryd.prog 14 #[clV a.nm q a.fs.length c] W fun e w' => e = .returned (.tuple #[.string P, .int .i64 0]) ∧ Below W.heap.size W w' := fun W q c h hT => by
    have := clsEncode_any a.nm q a.fs.length c a.fs wa1 wa2 W h (by omega) hT
    unfold encCPost at this
    rw [show (Cl.mk a.nm a.fs).ok = true from oka] at this
    rw [← hP]; exact this
  have encb : ∀ W q c, FLies W q b.fs.length c b.fs → Tabs W → Calls Tryd.prog 14 #[clV b.nm q b.fs.length c] W fun e w' => e = .returned (.tuple #[.string Q, .int .i64 0]) ∧ Below W.heap.size W w' := fun W q c h hT => by
    have := clsEncode_any b.nm q b.fs.length c b.fs wb1 wb2 W h (by omega) hT
    unfold encCPost at this
    rw [show (Cl.mk b.nm b.fs).ok = true from okb] at this
    rw [← hQ]; exact this
  obtain ⟨m, hm1, hm2, hm3, hm4⟩ := min_cut100 s
  obtain ⟨n, hn1, hn2, hn3, hn4⟩ := min_cut100 t
  have hms : (s.extract 0 m).size = m := by rw [ByteArray.size_extract]; omega
  have hns : (t.extract 0 n).size = n := by rw [ByteArray.size_extract]; omega
  have hdec : ∀ W, Tabs W → errLies ea W → Calls Tryd.prog 15 #[.string (((s.extract 0 m) ++ P) ++ (t.extract 0 n)), .int .i64 (m : Int)] W fun e w' => (∃ (q : Option Addr) (c : Nat), e = .returned (.tuple #[clV a.nm q a.fs.length c, .int .i64 ((m : Int) + (P.size : Int)), .int .i64 0]) ∧ FLies w' q a.fs.length c a.fs) ∧ Below W.heap.size W w' := fun W hT hE => by
    have hd := clsDecode_any (((s.extract 0 m) ++ P) ++ (t.extract 0 n)) (by rw [ByteArray.size_append, ByteArray.size_append, hms, hns]; omega) m (by rw [ByteArray.size_append, ByteArray.size_append, hms]; omega) ea W hT hE
    refine hd.mono ?_
    rintro e w' ⟨hb, hd⟩
    have e1 : (((s.extract 0 m) ++ P) ++ (t.extract 0 n)).data.toList = (s.extract 0 m).data.toList ++ (a.bytes ++ (t.extract 0 n).data.toList) := by
      rw [← hPl]; simp [ByteArray.data_append]
    have e2 : (s.extract 0 m).data.toList.length = m := by rw [nm_size, hms]
    rw [e1, List.drop_append_of_le_length (by omega), List.drop_of_length_le (by omega), List.nil_append, (undo_dec a oka).app] at hd
    obtain ⟨q, m', c, rfl, hl, h8⟩ := hd
    obtain rfl := hl.1
    exact ⟨⟨q, c, by rw [hPz]; push_cast; rfl, hl⟩, hb⟩
  obtain ⟨r, hr⟩ : ∃ r : Nat, k % (P.size : Int) = (r : Int) := ⟨(k % (P.size : Int)).toNat, by have := Int.emod_nonneg k (b := (P.size : Int)) (by omega); omega⟩
  have hrl : r < P.size := by have := Int.emod_lt_of_pos k (b := (P.size : Int)) (by omega); omega
  have hcut : ∀ W, Tabs W → errLies ea W → Calls Tryd.prog 15 #[.string (P.extract 0 r), .int .i64 0] W fun e w' => e = .returned (.tuple #[clV ⟨#[]⟩ none 0 0, .int .i64 0, .int .i64 10]) ∧ Below W.heap.size W w' := fun W hT hE => by
    have hd := clsDecode_any (P.extract 0 r) (by rw [ByteArray.size_extract]; omega) 0 (by omega) ea W hT hE
    refine hd.mono ?_
    rintro e w' ⟨hb, hd⟩
    rw [show ((P.extract 0 r).data.toList.drop 0) = a.bytes.take r from by rw [← hPl]; simp, (undo_dec a oka).cut r (by omega)] at hd
    exact ⟨hd, hb⟩
  have hpq : (P.toList == Q.toList) = sameC a b := by
    rw [Bool.eq_iff_iff, beq_iff_eq]
    rw [sameC_iff]
    exact ⟨fun e => cls_inj oka okb (by rw [← hPl, ← hQl, ba_eq_of e]), fun e => by rw [← hP, ← hQ, e]⟩
  have hself : ∀ W q c q' c', FLies W q a.fs.length c a.fs → FLies W q' a.fs.length c' a.fs → Calls Tryd.prog 16 #[clV a.nm q a.fs.length c, clV a.nm q' a.fs.length c'] W fun e w' => e = .returned (.bool true) ∧ Below W.heap.size W w' := fun W q c q' c' h h' => by
    have := clsSame_any a.nm q a.fs.length c a.fs a.nm q' a.fs.length c' a.fs W h h' (by omega) (by omega)
    rw [sameC_self] at this
    exact this
  have hcmp : ∀ W q c q' c', FLies W q a.fs.length c a.fs → FLies W q' b.fs.length c' b.fs → Calls Tryd.prog 16 #[clV a.nm q a.fs.length c, clV b.nm q' b.fs.length c'] W fun e w' => e = .returned (.bool (sameC a b)) ∧ Below W.heap.size W w' := fun W q c q' c' h h' =>
    clsSame_any a.nm q a.fs.length c a.fs b.nm q' b.fs.length c' b.fs W h h' (by omega) (by omega)
  generalize sameC a b = same at hpq hcmp
  have O0 : OkB ea w ((w.alloc (.cells #[.int .i64 x.n, .slice p x.l.length c] 24)).alloc (.cells #[.int .i64 y.n, .slice p' y.l.length c'] 24)) := ⟨hT.below b2, hE.below b2, b2⟩
  rw [← hPz] at wa4 wa5
  have z0 : ((P.size : Int) == 0) = false := by rw [beq_eq_false_iff_ne]; omega
  have z1 : ¬ (P.size : Int) = 0 := by omega
  have z2 : IntKind.i64.wrap ((m : Int) + (P.size : Int)) = (m : Int) + (P.size : Int) := IntWalk.i64_in _ (by omega)
  have z3 : k.tmod (P.size : Int) = (r : Int) := by rw [Int.tmod_eq_emod_of_nonneg hk0]; exact hr
  have z4 : IntKind.i64.wrap k = k := IntWalk.i64_in _ (by omega)
  have z5 : (r : Int) ≤ (P.size : Int) := by omega
  have z6 : (0 : Int) ≤ (r : Int) := by omega
  have z7 : decide ((r : Int) ≤ (P.size : Int)) = true := decide_eq_true z5
  have z8 : IntKind.i64.wrap (r : Int) = (r : Int) := IntWalk.i64_in _ (by omega)
  have HOFA := Lib.hid hofa
  have HOFB := Lib.hid hofb
  have ENCA := Lib.hid enca
  have ENCB := Lib.hid encb
  have HDEC := Lib.hid hdec
  have HCUT := Lib.hid hcut
  have HSELF := Lib.hid hself
  have HCMP := Lib.hid hcmp
  have HPQ := Lib.hid hpq
  have HMS := Lib.hid hms
  clear hofa hofb enca encb hdec hcut hself hcmp hpq hms hns hP hQ hPl hQl hPz hQz hT hE hL hL' b2 oka okb hr hs ht wa1 wa2 wb1 wb2 wb4 wb5 hx hy
  have h01 : w.heap.size ≠ w.heap.size + 1 := by omega
  go_enter Tryd.func4, Tryd.ntmps4
  go_wp2_with fail
  refine (clsEx_any ea _ O0.t O0.e).mono ?_
  rintro e W1 ⟨rfl, hB⟩
  have O1 := Lib.hid (O0.below hB)
  have r1 := R0.below hB
  have q1 := Q0.below hB
  clear O0 R0 Q0 hB
  obtain ⟨r0, r2⟩ := r1.facts
  have R1 := Lib.hid r1
  have Q1 := Lib.hid q1
  clear r1 q1
  go_wp2_with fail
  refine (HOFA.out _ R1.out.lies).mono ?_
  rintro e W2 ⟨qa, ca, rfl, hl, hB⟩
  have hal : Below W2.heap.size W2 (W2.alloc (.cells #[.string a.nm, .slice qa a.fs.length ca] 27)) := (Below.refl _ _).alloc (Nat.le_refl _) _
  have A2 := Lib.hid (show ClBox (W2.alloc (.cells #[.string a.nm, .slice qa a.fs.length ca] 27)) W2.heap.size a qa ca from ⟨CBox.new _ _ _ _ _, hl.below hal⟩)
  have O2 := Lib.hid ((O1.out.below hB).below hal)
  have q2 := (Q1.out.below hB).below hal
  clear r0 r2 O1 R1 Q1 hl hB hal
  obtain ⟨r0, r2⟩ := q2.facts
  have Q2 := Lib.hid q2
  clear q2
  go_wp2_with fail
  generalize W2.alloc (.cells #[.string a.nm, .slice qa a.fs.length ca] 27) = U2 at A2 O2 Q2 r0 r2 ⊢
  generalize W2.heap.size = ba at A2 ⊢
  refine (HOFB.out _ Q2.out.lies).mono ?_
  rintro e W3 ⟨qb, cb, rfl, hl, hB⟩
  have hal : Below W3.heap.size W3 (W3.alloc (.cells #[.string b.nm, .slice qb b.fs.length cb] 27)) := (Below.refl _ _).alloc (Nat.le_refl _) _
  have B3 := Lib.hid (show ClBox (W3.alloc (.cells #[.string b.nm, .slice qb b.fs.length cb] 27)) W3.heap.size b qb cb from ⟨CBox.new _ _ _ _ _, hl.below hal⟩)
  have O3 := Lib.hid ((O2.out.below hB).below hal)
  have a3 := (A2.out.below hB).below hal
  clear r0 r2 O2 A2 Q2 hl hB hal
  obtain ⟨c0, c1⟩ := a3.box.facts
  have A3 := Lib.hid a3
  clear a3
  go_wp2_with fail
  generalize W3.alloc (.cells #[.string b.nm, .slice qb b.fs.length cb] 27) = U3 at A3 O3 B3 c0 c1 ⊢
  generalize W3.heap.size = bb at B3 ⊢
  refine (ENCA.out _ qa ca A3.out.lies O3.out.t).mono ?_
  rintro e W4 ⟨rfl, hB⟩
  have O4 := Lib.hid (O3.out.below hB)
  have A4 := Lib.hid (A3.out.below hB)
  have B4 := Lib.hid (B3.out.below hB)
  clear hB O3 A3 B3 c0 c1
  obtain ⟨c0, c1⟩ := B4.out.box.facts
  go_wp2_with fail
  refine (ENCB.out _ qb cb B4.out.lies O4.out.t).mono ?_
  rintro e W5 ⟨rfl, hB⟩
  have O5 := Lib.hid (O4.out.below hB)
  have A5 := Lib.hid (A4.out.below hB)
  have B5 := Lib.hid (B4.out.below hB)
  clear hB O4 A4 B4 c0 c1
  go_wp2_with fail
  refine (HDEC.out _ O5.out.t O5.out.e).mono ?_
  rintro e W6 ⟨⟨qd, cd, rfl, hl⟩, hB⟩
  have hal : Below W6.heap.size W6 (W6.alloc (.cells #[.string a.nm, .slice qd a.fs.length cd] 27)) := (Below.refl _ _).alloc (Nat.le_refl _) _
  have D6 := Lib.hid (show ClBox (W6.alloc (.cells #[.string a.nm, .slice qd a.fs.length cd] 27)) W6.heap.size a qd cd from ⟨CBox.new _ _ _ _ _, hl.below hal⟩)
  have O6 := Lib.hid ((O5.out.below hB).below hal)
  have A6 := Lib.hid ((A5.out.below hB).below hal)
  have B6 := Lib.hid ((B5.out.below hB).below hal)
  clear O5 A5 B5 hl hB hal
  obtain ⟨c0, c1⟩ := A6.out.box.facts
  obtain ⟨d0, d1⟩ := D6.out.box.facts
  go_wp2_with fail
  refine (HSELF.out _ qd cd qa ca D6.out.lies A6.out.lies).mono ?_
  rintro e W7 ⟨rfl, hB⟩
  have O7 := Lib.hid (O6.out.below hB)
  have A7 := Lib.hid (A6.out.below hB)
  have B7 := Lib.hid (B6.out.below hB)
  clear hB O6 A6 B6 D6 c0 c1 d0 d1
  go_wp2_with fail
  refine (HCUT.out _ O7.out.t O7.out.e).mono ?_
  rintro e W8 ⟨rfl, hB⟩
  have hal : Below W8.heap.size W8 (W8.alloc (.cells #[.string ⟨#[]⟩, .slice none 0 0] 27)) := (Below.refl _ _).alloc (Nat.le_refl _) _
  have O8 := Lib.hid ((O7.out.below hB).below hal)
  have A8 := Lib.hid ((A7.out.below hB).below hal)
  have B8 := Lib.hid ((B7.out.below hB).below hal)
  clear O7 A7 B7 hB hal
  obtain ⟨c0, c1⟩ := A8.out.box.facts
  obtain ⟨d0, d1⟩ := B8.out.box.facts
  have hpq := HPQ.out
  cases same with
  | true =>
    have hp3 : P.toList = Q.toList := by simpa using hpq
    go_wp2_with fail
    refine (HCMP.out _ qa ca qb cb A8.out.lies B8.out.lies).mono ?_
    rintro e W9 ⟨rfl, hB⟩
    have O9 := Lib.hid (O8.out.below hB)
    clear hB O8 A8 B8 c0 c1 d0 d1
    go_wp2_with fail
    go_ret
    exact ⟨rfl, O9.out.b⟩
  | false =>
    have hp3 : ¬ P.toList = Q.toList := by simpa using hpq
    go_wp2_with fail
    refine (HCMP.out _ qa ca qb cb A8.out.lies B8.out.lies).mono ?_
    rintro e W9 ⟨rfl, hB⟩
    have O9 := Lib.hid (O8.out.below hB)
    clear hB O8 A8 B8 c0 c1 d0 d1
    go_wp2_with fail
    go_ret
    exact ⟨rfl, O9.out.b⟩
end Go.Proofs.YtffoklhopmhjaaaDoor

/- append(nil, xs...): a copy. -/
set_option linter.unusedSimpArgs false
set_option linter.unusedVariables false
namespace Go.Proofs.YtffoklhopmhjaaaDoor
open Go Go.RowKit

theorem run_append_zero {P : Program} {w : World} (t ty e : TypeId) (i : TypeInfo) (ht : P.underlying t = some (.slice e)) (hi : P.info? e = some i) (p : Option Addr) (c : Nat) :
    (Builtin.append_ #[t, t] ty #[.slice none 0 0, .slice p 0 c]).run P w = .ok (.slice none 0 0) w := by
  cases p <;> simp [Builtin.append_, run_underlying ht, sizeOf, typeInfo, hi, Builtin.lenOf, Builtin.firstCells, loadCells, loadCellsFrom, Result.andThen]
theorem wpList_append_zero {P : Program} {w : World} {ops : Array Oper} {rest : List Oper} {o : Oper} {a : Act} {Q : Exit → Act → World → Prop} (hgd : o.guard = none) (s x : Operand) (t : TypeId)
    (ho : o.op = .call { callee := .builtin .append, args := #[s, x], argTypes := #[t, t] })
    (e : TypeId) (i : TypeInfo) (ht : P.underlying t = some (.slice e)) (hi : P.info? e = some i)
    (p : Option Addr) (c : Nat) (hs : a.eval s = .slice none 0 0) (hx : a.eval x = .slice p 0 c)
    (h : wpList P ops Q rest (a.put o.dst (.slice none 0 0)) w) : wpList P ops Q (o :: rest) a w := by
  refine wpList_plain hgd fun K hK => ?_
  have hrun := run_append_zero (P := P) (w := w) t o.type e i ht hi p c
  unfold Oper.wp
  simp [execOp, ho, resolve, invoke, builtin, hs, hx, hrun, Result.andThen]
  exact hK _ _ h
/-- append(nil, xs...): a copy in memory of its own -/
theorem wpList_append_copy {P : Program} {w : World} {ops : Array Oper} {rest : List Oper} {o : Oper} {a : Act} {Q : Exit → Act → World → Prop} (hgd : o.guard = none) (s x : Operand) (t : TypeId)
    (ho : o.op = .call { callee := .builtin .append, args := #[s, x], argTypes := #[t, t] })
    (base : Nat) (e : TypeId) (i : TypeInfo) (z : Value) (size bytes : Nat) (ht : P.underlying t = some (.slice e)) (hi : P.info? e = some i) (hz : i.zero = some z)
    (hsize : i.size = size) (hby : i.bytes = bytes) (hzs : z.cells.size = size) (hsz : 0 < size)
    (hs : a.eval s = .slice none 0 0) (p : Option Addr) (m c : Nat) (xs : List Value) (hx : a.eval x = .slice p m c) (hL : Lies w (.slice p m c) m size xs) (h1 : ∀ u ∈ xs, u.oneCell' = true)
    (h63 : m ≤ maxLen) (hbytes : m * bytes ≤ 140737488355328) (hbase : base ≤ w.heap.size)
    (h : ∀ p' c' w', w'.ownsRow base e size (.slice p' m c') m xs → w.grownBy w' none → wpList P ops Q rest (a.put o.dst (.slice p' m c')) w') : wpList P ops Q (o :: rest) a w := by
  rcases Nat.eq_zero_or_pos m with rfl | hm
  · have e0 : xs = [] := List.eq_nil_of_length_eq_zero (by have := hL.1; omega)
    subst e0
    exact wpList_append_zero hgd s x t ho e i ht hi p c hs hx (h none 0 w (World.ownsRow_nil _ _ _ _) ⟨rfl, rfl, rfl, Nat.le_refl _, fun _ _ _ => rfl⟩)
  · obtain ⟨b, off, rfl, hb, hc⟩ : ∃ b off, p = some ⟨b, off, none⟩ ∧ b < w.heap.size ∧ ∀ j u, xs[j]? = some u → w.cell? ⟨b, off + j, none⟩ = some u := by
      rcases hL.2 with ⟨h0, _⟩ | ⟨b, off, c', hv, hb, hc⟩
      · omega
      · injection hv with h1 _ _
        exact ⟨b, off, h1, hb, hc⟩
    refine wpList_append_lies w hgd s x t ho base e i z size bytes ht hi hz hsize hby hzs hsz (Value.slice none 0 0) 0 [] hs (World.ownsRow_nil _ _ _ _) ⟨b, off, none⟩ m c xs hx hL.1 (fun j u hu => ?_) h1 hm (by omega) (by rw [Nat.zero_add]; exact hbytes) hbase w.heap.size rfl ?_
    · have := hc j u hu
      rwa [show (⟨b, off, none⟩ : Addr).add j = ⟨b, off + j, none⟩ from by unfold Addr.add; split <;> simp_all]
    · intro g cap w' hown hg _ _
      rw [Nat.zero_add] at hown ⊢
      exact h _ _ w' hown hg

end Go.Proofs.YtffoklhopmhjaaaDoor

/- The walk of ClassOnce. -/
set_option linter.unusedSimpArgs false
set_option linter.unusedVariables false
namespace Go.Proofs.YtffoklhopmhjaaaDoor
open Go Go.RowKit Go.Shelf

theorem below_none {W W' : World} (h : W.grownBy W' none) : Below W.heap.size W W' := ⟨h.os, h.tape, h.output, h.size, fun k hk => h.block k hk (by simp)⟩
/-- a class with fields of its own, made since a world -/
structure Cp (B : Nat) (W : World) (b : Nat) (nm : ByteArray) (g n c : Nat) (fs : List Fl) (V : World) : Prop where
  box : CBox V b nm (some ⟨g, 0, none⟩) n c
  own : FOwn B V g n c fs
  lo : B ≤ b
  ne : b ≠ g
  below : Below B W V
section
variable {B : Nat} {W V V' : World} {b : Nat} {nm : ByteArray} {g n c : Nat} {fs : List Fl}
theorem Cp.go (h : Cp B W b nm g n c fs V) (hb : Below V.heap.size V V') : Cp B W b nm g n c fs V' := ⟨h.box.below hb, h.own.below hb, h.lo, h.ne, h.below.trans (hb.mono (Nat.le_of_lt (Nat.lt_of_le_of_lt h.lo h.box.lt)))⟩
theorem Cp.lies (h : Cp B W b nm g n c fs V) : FLies V (some ⟨g, 0, none⟩) n c fs := h.own.lies
theorem Cp.set (h : Cp B W b nm g n c fs V) (k : Nat) (hk : k < fs.length) (j : Nat) (hj : j < 4) (u : Value) (f : Fl) (hf : f.cells = (fs[k].cells).set j u) : Cp B W b nm g n c (fs.set k f) (V.setCell ⟨g, k * 4 + j, none⟩ u) :=
  ⟨(Below.heap_setCell V ⟨g, k * 4 + j, none⟩ u b h.ne).trans h.box, h.own.set k hk j hj u f hf, h.lo, h.ne, h.below.setCell (p := ⟨g, k * 4 + j, none⟩) h.own.lt.1 u⟩
/-- a copy's fields are its own -/
theorem Cp.ofCopy {W U : World} {nm : ByteArray} {q : Option Addr} {n c g c' : Nat} {fs : List Fl} (hn : n = fs.length) (hU : U = W.alloc (.cells #[.string nm, .slice q n c] 27)) {U' : World} (ho : U'.ownsRow U.heap.size 53 4 (.slice (some ⟨g, 0, none⟩) n c') n (flCells fs)) (hg : U.grownBy U' none) :
    Cp W.heap.size W W.heap.size nm g n c' fs (U'.setCell ⟨W.heap.size, 1, none⟩ (.slice (some ⟨g, 0, none⟩) n c')) := by
  subst hU
  have hz : (W.alloc (.cells #[.string nm, .slice q n c] 27)).heap.size = W.heap.size + 1 := World.size_alloc _ _
  rw [hz] at ho
  have hgl := ho.lt g rfl
  have hb := below_none hg
  have hbx := (CBox.new W nm q n c).below hb
  refine ⟨?_, ⟨hn, ?_⟩, Nat.le_refl _, by omega, ?_⟩
  · exact hbx.set1 _ _ _
  · exact owned_base (ownsRow_setCell_other ho (a := ⟨W.heap.size, 1, none⟩) (fun e => by have := Option.some.inj e; simp at this; omega) _) (by omega)
  · exact ((((Below.refl _ _).alloc (Nat.le_refl _) _).trans (hb.mono (by rw [hz]; omega)))).setCell (p := ⟨W.heap.size, 1, none⟩) (Nat.le_refl _) _
/-- a field more -/
theorem Cp.ofMore {W U : World} {nm : ByteArray} {q : Option Addr} {n c g c' g0 : Nat} {fs : List Fl} (f : Fl) (hn : n = fs.length) (hU : U = W.alloc (.cells #[.string nm, .slice q n c] 27)) {U2 U3 : World}
    (hb : Below U.heap.size U U2) (hg0 : U.heap.size ≤ g0) (hg : U2.grownBy U3 (some g0)) (ho : U3.ownsRow U.heap.size 53 4 (.slice (some ⟨g, 0, none⟩) (n + 1) c') (n + 1) (flCells fs ++ f.cells)) :
    Cp W.heap.size W W.heap.size nm g (n + 1) c' (fs ++ [f]) (U3.setCell ⟨W.heap.size, 1, none⟩ (.slice (some ⟨g, 0, none⟩) (n + 1) c')) := by
  subst hU
  have hz : (W.alloc (.cells #[.string nm, .slice q n c] 27)).heap.size = W.heap.size + 1 := World.size_alloc _ _
  rw [hz] at ho hg0
  have hgl := ho.lt g rfl
  have hbx := ((CBox.new W nm q n c).below hb).grown hg (fun e => by have := Option.some.inj e; omega)
  have hb3 : Below W.heap.size W U3 := by
    have h1 := ((Below.refl W.heap.size W).alloc (Nat.le_refl _) (.cells #[.string nm, .slice q n c] 27)).trans (hb.mono (by rw [hz]; omega))
    exact h1.grown hg h1.size (fun g' hg' => by have := Option.some.inj hg'; omega)
  refine ⟨?_, ⟨by simp [hn], ?_⟩, Nat.le_refl _, by omega, ?_⟩
  · exact hbx.set1 _ _ _
  · rw [flCells_append]
    exact owned_base (ownsRow_setCell_other ho (a := ⟨W.heap.size, 1, none⟩) (fun e => by have := Option.some.inj e; simp at this; omega) _) (by omega)
  · exact hb3.setCell (p := ⟨W.heap.size, 1, none⟩) (Nat.le_refl _) _
end
theorem fine_set {fs : List Fl} (h : ∀ f ∈ fs, f.fine) (k : Nat) {g : Fl} (hg : g.fine) : ∀ f ∈ fs.set k g, f.fine := fun f hf => by
  rcases List.mem_or_eq_of_mem_set hf with h1 | rfl
  · exact h f h1
  · exact hg
theorem fine_more {fs : List Fl} (h : ∀ f ∈ fs, f.fine) {g : Fl} (hg : g.fine) : ∀ f ∈ fs ++ [g], f.fine := fun f hf => by
  rcases List.mem_append.1 hf with h1 | h1
  · exact h f h1
  · rw [List.mem_singleton.1 h1]; exact hg
theorem byte_text (b : UInt8) (w : World) : (convert 56 9 (.slice (some ⟨w.heap.size, 0, none⟩) 1 1)).run Tryd.prog (w.alloc (.cells #[.int .u8 (b.toNat : Int)] 5)).drew =
    .ok (.string ⟨#[b]⟩) (w.alloc (.cells #[.int .u8 (b.toNat : Int)] 5)).drew := by
  have := run_convert_bytes_back (P := Tryd.prog) (w.alloc (.cells #[.int .u8 (b.toNat : Int)] 5)).drew 56 9 5 ⟨w.heap.size, 0, none⟩ 1 [b] Tryd.underlying56 Tryd.underlying5 Tryd.underlying9 (fun j hj => by
    obtain rfl : j = 0 := by simpa using hj
    exact cell_of_row _ w.heap.size 0 #[.int .u8 (b.toNat : Int)] 5 (0, 0) (World.alloc_heap_new w _))
  exact this
/-- the class, and its fields, with what is carried along -/
structure OC (ea : Addr) (w : World) (ba : Nat) (a : Cl) (q : Option Addr) (c : Nat) (W : World) : Prop where
  ok : OkB ea w W
  cls : ClBox W ba a q c
theorem OC.go {ea : Addr} {w : World} {ba : Nat} {a : Cl} {q : Option Addr} {c : Nat} {W W' : World} (h : OC ea w ba a q c W) (hb : Below W.heap.size W W') : OC ea w ba a q c W' := ⟨h.ok.below hb, h.cls.below hb⟩
theorem OC.lt {ea : Addr} {w : World} {ba : Nat} {a : Cl} {q : Option Addr} {c : Nat} {W : World} (h : OC ea w ba a q c W) : ba < W.heap.size := h.cls.box.lt
/-- the k-th field's name in its cell -/
theorem fl_name {W : World} {b off n c : Nat} {fs : List Fl} (h : FLies W (some ⟨b, off, none⟩) n c fs) (k : Nat) (hk : k < fs.length) : b < W.heap.size ∧ W.cell? ⟨b, off + k * 4, none⟩ = some (.string fs[k].nm) := by
  obtain ⟨b', off', he, hb, hc⟩ := h.2.at (by omega)
  injection he with he
  injection he with e1 e2
  subst e1 e2
  have := hc (k * 4 + 0) _ (flCells_at fs k hk 0 (.string fs[k].nm) rfl)
  exact ⟨hb, this⟩

/-- append(nil, xs...) of one thing or more -/
theorem wpList_append_mine {P : Program} {w : World} {ops : Array Oper} {rest : List Oper} {o : Oper} {a : Act} {Q : Exit → Act → World → Prop} (hgd : o.guard = none) (s x : Operand) (t : TypeId)
    (ho : o.op = .call { callee := .builtin .append, args := #[s, x], argTypes := #[t, t] })
    (base : Nat) (e : TypeId) (i : TypeInfo) (z : Value) (size bytes : Nat) (ht : P.underlying t = some (.slice e)) (hi : P.info? e = some i) (hz : i.zero = some z)
    (hsize : i.size = size) (hby : i.bytes = bytes) (hzs : z.cells.size = size) (hsz : 0 < size)
    (hs : a.eval s = .slice none 0 0) (p : Option Addr) (m c : Nat) (xs : List Value) (hx : a.eval x = .slice p m c) (hL : Lies w (.slice p m c) m size xs) (h1 : ∀ u ∈ xs, u.oneCell' = true)
    (h63 : m ≤ maxLen) (hbytes : m * bytes ≤ 140737488355328) (hbase : base ≤ w.heap.size) (hm : 0 < m)
    (h : ∀ g c' w', w'.ownsRow base e size (.slice (some ⟨g, 0, none⟩) m c') m xs → w.grownBy w' none → wpList P ops Q rest (a.put o.dst (.slice (some ⟨g, 0, none⟩) m c')) w') : wpList P ops Q (o :: rest) a w := by
  refine wpList_append_copy hgd s x t ho base e i z size bytes ht hi hz hsize hby hzs hsz hs p m c xs hx hL h1 h63 hbytes hbase ?_
  intro p' c' w' hown hg
  obtain ⟨g, cap, he, _⟩ := hown.form hm
  injection he with e1 _ e2
  subst e1 e2
  exact h g _ w' hown hg
end Go.Proofs.YtffoklhopmhjaaaDoor

/- morainelaw04.cut. -/
set_option linter.unusedSimpArgs false
set_option linter.unusedVariables false
namespace Go.Proofs.YtffoklhopmhjaaaDoor
open Go Go.RowKit Go.Shelf

theorem min_cutN (n m : Nat) : (if (m : Int) < (n : Int) then (m : Int) else (n : Int)) = ((min n m : Nat) : Int) ∧ min (n : Int) (m : Int) = ((min n m : Nat) : Int) := by
  constructor
  · split <;> omega
  · omega
def cutN (s : ByteArray) : ByteArray := s.extract 0 (min s.size 30)
theorem cutN_size (s : ByteArray) : (cutN s).size ≤ 30 := by unfold cutN; rw [ByteArray.size_extract]; omega
def cutF (f : Fl) : Fl := { f with nm := cutN f.nm }
/-- the first k names cut -/
def cutTo (fs : List Fl) (k : Nat) : List Fl := (fs.take k).map cutF ++ fs.drop k
theorem cutTo_len (fs : List Fl) (k : Nat) (h : k ≤ fs.length) : (cutTo fs k).length = fs.length := by unfold cutTo; simp; omega
theorem cutTo_zero (fs : List Fl) : cutTo fs 0 = fs := by simp [cutTo]
theorem cutTo_end (fs : List Fl) : cutTo fs fs.length = fs.map cutF := by simp [cutTo]
theorem cutTo_at (fs : List Fl) (k : Nat) (h : k < fs.length) : (cutTo fs k)[k]'(by rw [cutTo_len fs k (by omega)]; exact h) = fs[k] := by
  unfold cutTo
  rw [List.getElem_append_right (by simp; omega)]
  have e : k - min k fs.length = 0 := by omega
  simp [e]
theorem cutTo_succ (fs : List Fl) (k : Nat) (h : k < fs.length) : (cutTo fs k).set k (cutF fs[k]) = cutTo fs (k + 1) := by
  unfold cutTo
  have h1 : ((fs.take k).map cutF).length = k := by simp; omega
  rw [List.set_append_right _ _ (by omega), h1, Nat.sub_self, List.take_succ_eq_append_getElem h, List.map_append, List.append_assoc]
  congr 1
  rw [List.drop_eq_getElem_cons h]; rfl
def cutCl (a : Cl) : Cl := ⟨cutN a.nm, (a.fs.take 12).map cutF⟩
theorem cutCl_fine {a : Cl} (h : ∀ f ∈ a.fs, f.fine) : ∀ f ∈ (cutCl a).fs, f.fine := fun f hf => by
  obtain ⟨g, hg, rfl⟩ := List.mem_map.1 hf
  have h1 := h g (List.mem_of_mem_take hg)
  exact ⟨by have := cutN_size g.nm; show (cutN g.nm).size ≤ _; omega, h1.2.1, h1.2.2⟩
theorem flies_take {W : World} {q : Option Addr} {n c : Nat} {fs : List Fl} (h : FLies W q n c fs) (m : Nat) (hm : m ≤ fs.length) : Lies W (.slice q m c) m 4 (flCells (fs.take m)) := by
  have hl : (flCells (fs.take m)).length = m * 4 := by rw [flCells_length, List.length_take]; congr 1; omega
  refine ⟨hl, ?_⟩
  rcases Nat.eq_zero_or_pos m with rfl | hp
  · exact .inl ⟨rfl, q, c, rfl⟩
  · obtain ⟨b, off, e, hb, hc⟩ := h.2.at (by omega)
    subst e
    refine .inr ⟨b, off, c, rfl, hb, fun j u hu => hc j u ?_⟩
    have hs : flCells fs = flCells (fs.take m) ++ flCells (fs.drop m) := by rw [← flCells_append, List.take_append_drop]
    rw [hs, List.getElem?_append_left (List.getElem?_eq_some_iff.1 hu).1]
    exact hu
/-- what cut carries along -/
structure CutSt (w : World) (nm : ByteArray) (m : Nat) (fs : List Fl) (vp : Option Addr) (vc : Nat) (W : World) : Prop where
  box : CBox W w.heap.size nm vp m vc
  out : CBox W (w.heap.size + 1) ⟨#[]⟩ none 0 0
  own : W.ownsRow (w.heap.size + 2) 53 4 (.slice vp m vc) m (flCells fs)
  below : Below w.heap.size w W
theorem CutSt.go {w W W' : World} {nm : ByteArray} {m : Nat} {fs : List Fl} {vp : Option Addr} {vc : Nat} (h : CutSt w nm m fs vp vc W) (hb : Below W.heap.size W W') : CutSt w nm m fs vp vc W' :=
  ⟨h.box.below hb, h.out.below hb, owned_below h.own hb, h.below.trans (hb.mono h.below.size)⟩
theorem CutSt.set {w W : World} {nm : ByteArray} {m : Nat} {fs : List Fl} {g vc : Nat} (h : CutSt w nm m fs (some ⟨g, 0, none⟩) vc W) (hm : m = fs.length) (k : Nat) (hk : k < fs.length) (u : ByteArray) (f : Fl) (hf : f.cells = (fs[k].cells).set 0 (.string u)) :
    CutSt w nm m (fs.set k f) (some ⟨g, 0, none⟩) vc (W.setCell ⟨g, k * 4, none⟩ (.string u)) := by
  have hl := h.own.lt g rfl
  have ho := (FOwn.mk hm h.own).set k hk 0 (by decide) (.string u) f hf
  exact ⟨(Below.heap_setCell W ⟨g, k * 4, none⟩ (.string u) _ (by show w.heap.size ≠ g; omega)).trans h.box, (Below.heap_setCell W ⟨g, k * 4, none⟩ (.string u) _ (by show w.heap.size + 1 ≠ g; omega)).trans h.out, ho.row, h.below.setCell (p := ⟨g, k * 4, none⟩) (by show w.heap.size ≤ g; omega) _⟩
theorem CutSt.fin {w W : World} {nm : ByteArray} {m : Nat} {fs : List Fl} {vp : Option Addr} {vc : Nat} (h : CutSt w nm m fs vp vc W) (hm : m = fs.length) : CBox ((W.setCell ⟨w.heap.size + 1, 0, none⟩ (.string nm)).setCell ⟨w.heap.size + 1, 1, none⟩ (.slice vp m vc)) (w.heap.size + 1) nm vp m vc ∧ FLies ((W.setCell ⟨w.heap.size + 1, 0, none⟩ (.string nm)).setCell ⟨w.heap.size + 1, 1, none⟩ (.slice vp m vc)) vp m vc fs ∧ Below w.heap.size w ((W.setCell ⟨w.heap.size + 1, 0, none⟩ (.string nm)).setCell ⟨w.heap.size + 1, 1, none⟩ (.slice vp m vc)) := by
  have g1 := set_grown W (w.heap.size + 1) 0 (.string nm)
  have g2 := set_grown (W.setCell ⟨w.heap.size + 1, 0, none⟩ (.string nm)) (w.heap.size + 1) 1 (.slice vp m vc)
  have o1 := h.own.kept g1 (own_not h.own (by omega))
  subst hm
  exact ⟨(h.out.set0 nm).set1 vp _ vc, ⟨rfl, Lies.own (o1.kept g2 (own_not o1 (by omega)))⟩, below_grown (below_grown h.below g1 (by omega)) g2 (by omega)⟩
/-- what cut answers -/
def cutPost (a : Cl) (w : World) (e : Ending) (w' : World) : Prop :=
  ∃ (q : Option Addr) (c : Nat), e = .returned (clV (cutCl a).nm q (cutCl a).fs.length c) ∧ FLies w' q (cutCl a).fs.length c (cutCl a).fs ∧ Below w.heap.size w w'

set_option maxHeartbeats 8000000 in
set_option maxRecDepth 100000 in
theorem cut_any (cn : ByteArray) (hcn : cn.size ≤ 9223372036854775807) (q : Option Addr) (c : Nat) (fs : List Fl) (hff : ∀ f ∈ fs, f.fine) (hn : fs.length ≤ c) (hc : c ≤ 9223372036854775807) (w : World) (hF : FLies w q fs.length c fs) :
    Calls Tryd.prog 11 #[clV cn q fs.length c] w (cutPost ⟨cn, fs⟩ w) := by
  obtain ⟨j0, hj, hy0, hy1, hy2⟩ := info_parts infoFld2
  obtain ⟨m, hm⟩ : ∃ m, min fs.length 12 = m := ⟨_, rfl⟩
  obtain ⟨gs, hgs⟩ : ∃ gs, fs.take 12 = gs := ⟨_, rfl⟩
  have hgl : gs.length = m := by rw [← hgs, List.length_take, Nat.min_comm]; exact hm
  have hgf : ∀ f ∈ gs, f.fine := fun f hf => hff f (List.mem_of_mem_take (by rw [hgs]; exact hf))
  have hcc : (cutCl ⟨cn, fs⟩).nm = cutN cn ∧ (cutCl ⟨cn, fs⟩).fs = gs.map cutF := ⟨rfl, by show (fs.take 12).map cutF = _; rw [hgs]⟩
  obtain ⟨r, hr⟩ : ∃ r, min cn.size 30 = r := ⟨_, rfl⟩
  have hcnm : cutN cn = cn.extract 0 r := by unfold cutN; rw [hr]
  have m1a : (if (30 : Int) < (cn.size : Int) then (30 : Int) else (cn.size : Int)) = (r : Int) := by split <;> omega
  have m1b : min (cn.size : Int) 30 = (r : Int) := by omega
  have m2a : (if (12 : Int) < (fs.length : Int) then (12 : Int) else (fs.length : Int)) = (m : Int) := by split <;> omega
  have m2b : min (fs.length : Int) 12 = (m : Int) := by omega
  unfold cutPost
  rw [hcc.1, hcc.2, hcnm]
  have b2 : Below w.heap.size w ((w.alloc (.cells #[.string (cn.extract 0 r), .slice q fs.length c] 27)).alloc (.cells #[.string ⟨#[]⟩, .slice none 0 0] 27)) := below_two _ _
  have htk := flies_take (hF.below b2) m (by omega)
  rw [show fs.take m = gs by rw [← hgs, ← hm, Nat.min_comm]; simp [List.take_eq_take_iff]] at htk
  have hbx0 : CBox ((w.alloc (.cells #[.string (cn.extract 0 r), .slice q fs.length c] 27)).alloc (.cells #[.string ⟨#[]⟩, .slice none 0 0] 27)) w.heap.size (cn.extract 0 r) q fs.length c := (CBox.new w _ _ _ _).alloc _
  have hbx1 : CBox ((w.alloc (.cells #[.string (cn.extract 0 r), .slice q fs.length c] 27)).alloc (.cells #[.string ⟨#[]⟩, .slice none 0 0] 27)) (w.heap.size + 1) ⟨#[]⟩ none 0 0 := by
    have h := CBox.new (w.alloc (.cells #[.string (cn.extract 0 r), .slice q fs.length c] 27)) ⟨#[]⟩ none 0 0
    rwa [World.size_alloc] at h
  have hr1 : (r : Int) ≤ (cn.size : Int) := by omega
  have hr0 : (0 : Int) ≤ (r : Int) := by omega
  have hm1 : (m : Int) ≤ (fs.length : Int) := by omega
  have hm0 : (0 : Int) ≤ (m : Int) := by omega
  have hm12 : m ≤ 12 := by omega
  have B2 := Lib.hid b2
  have HTK := Lib.hid htk
  have HBX0 := Lib.hid hbx0
  have HBX1 := Lib.hid hbx1
  have HGL := Lib.hid hgl
  have HGF := Lib.hid hgf
  clear b2 htk hbx0 hbx1 hgl hgf hcc hcnm hgs hm hr hff
  go_enter Tryd.func11, Tryd.ntmps11
  go_upto_region 2 with fail
  have hUz : ((w.alloc (.cells #[.string (cn.extract 0 r), .slice q fs.length c] 27)).alloc (.cells #[.string ⟨#[]⟩, .slice none 0 0] 27)).heap.size = w.heap.size + 2 := by simp
  generalize (w.alloc (.cells #[.string (cn.extract 0 r), .slice q fs.length c] 27)).alloc (.cells #[.string ⟨#[]⟩, .slice none 0 0] 27) = U at B2 HTK HBX0 HBX1 hUz ⊢
  have hbx : ∀ X, U.grownBy X none → X.cell? ⟨w.heap.size, 1, none⟩ = some (.slice q fs.length c) ∧ X.frozen? ⟨w.heap.size, 1, none⟩ = false := fun X hg => by
    have h := HBX0.out.below (below_none hg)
    exact ⟨h.facts.2, h.free.2⟩
  have HBX := Lib.hid hbx
  clear hbx
  obtain ⟨c0, c1⟩ := HBX0.out.facts
  have hmc : (m : Int) ≤ (c : Int) := by omega
  go_upto_region 3 with (at_builtin; refine wpList_append_copy rfl _ _ _ rfl (w.heap.size + 2) 53 j0 _ 4 40 Tryd.underlying25 hj hy0 hy1 hy2 rfl (by omega) rfl q m c (flCells gs) rfl HTK.out (flCells_one gs) (by unfold maxLen; omega) (by omega) (by omega) ?_; intro p' c' X1 hown hgrow; obtain ⟨y0, y1⟩ := HBX.out X1 hgrow)
  have hst : CutSt w (cn.extract 0 r) m (cutTo gs 0) p' c' (X1.setCell ⟨w.heap.size, 1, none⟩ (.slice p' m c')) := by
    rw [cutTo_zero]
    have hb := below_none hgrow
    have hs := hb.size
    refine ⟨(HBX0.out.below hb).set1 _ _ _, (Below.heap_setCell X1 ⟨w.heap.size, 1, none⟩ _ _ (by show w.heap.size + 1 ≠ w.heap.size; omega)).trans (HBX1.out.below hb), ?_, (B2.out.trans (hb.mono B2.out.size)).setCell (p := ⟨w.heap.size, 1, none⟩) (Nat.le_refl _) _⟩
    exact ownsRow_setCell_below hown (a := ⟨w.heap.size, 1, none⟩) (by show w.heap.size < w.heap.size + 2; omega) _
  have ST0 := Lib.hid hst
  clear hst c0 c1 y0 y1 hown hgrow HBX HBX0 HBX1 B2 HTK hUz
  generalize X1.setCell ⟨w.heap.size, 1, none⟩ (.slice p' m c') = V at ST0 ⊢
  go_wp2_with fail
  go_loopw [3] (fun i wr => ∃ k : Nat, k ≤ m ∧ i = .int .i64 (k : Int) ∧ CutSt w (cn.extract 0 r) m (cutTo gs k) p' c' wr) (fun i _ => m - (intOf i).toNat)
  case atStart => exact ⟨0, by omega, rfl, ST0.out⟩
  case round =>
    obtain ⟨k, hk, rfl, hst⟩ := hrel
    obtain ⟨c0, c1⟩ := hst.box.facts
    have ST := Lib.hid hst
    clear hst ST0
    by_cases hlt : k < m
    · have e1 : decide ((k : Int) < (m : Int)) = true := decide_eq_true (by omega)
      have e1' : (k : Int) < (m : Int) := by omega
      have e0 : (0 : Int) ≤ (k : Int) := by omega
      obtain ⟨g, cap, he, hg1, hg2⟩ := ST.out.own.form (by omega)
      injection he with he1 _ he2
      subst he1 he2
      have hkg : k < gs.length := by rw [HGL.out]; exact hlt
      have hlen := cutTo_len gs k (by omega)
      have hfo : FOwn (w.heap.size + 2) wr g m c' (cutTo gs k) := ⟨by rw [hlen, HGL.out], ST.out.own⟩
      have hat := cutTo_at gs k hkg
      have z0 : wr.cell? ⟨g, k * 4, none⟩ = some (.string gs[k].nm) := hfo.cell k (by rw [hlen]; exact hkg) 0 _ (by rw [hat]; rfl)
      have zf : wr.frozen? ⟨g, k * 4, none⟩ = false := hfo.free _
      have hfs := (HGF.out _ (List.getElem_mem hkg)).1
      have hnext : CutSt w (cn.extract 0 r) m (cutTo gs (k + 1)) (some ⟨g, 0, none⟩) c' (wr.setCell ⟨g, k * 4, none⟩ (.string (cutN gs[k].nm))) := by
        have h := ST.out.set (by rw [hlen, HGL.out]) k (by rw [hlen]; exact hkg) (cutN gs[k].nm) (cutF gs[k]) (by rw [hat]; rfl)
        rwa [cutTo_succ gs k hkg] at h
      have hcd : cutN gs[k].nm = gs[k].nm.extract 0 (min gs[k].nm.size 30) := rfl
      generalize gs[k].nm = fn at z0 hfs hnext hcd
      obtain ⟨rk, hrk⟩ : ∃ rk, min fn.size 30 = rk := ⟨_, rfl⟩
      rw [hrk] at hcd
      rw [hcd] at hnext
      have n1a : (if (30 : Int) < (fn.size : Int) then (30 : Int) else (fn.size : Int)) = (rk : Int) := by split <;> omega
      have n1b : min (fn.size : Int) 30 = (rk : Int) := by omega
      have n2 : (rk : Int) ≤ (fn.size : Int) := by omega
      have n3 : (0 : Int) ≤ (rk : Int) := by omega
      have hS0 : wr.drew.cell? ⟨w.heap.size, 1, none⟩ = some (.slice (some ⟨g, 0, none⟩) m c') ∧ wr.drew.cell? ⟨g, k * 4, none⟩ = some (.string fn) := ⟨c1, z0⟩
      have HNEXT := Lib.hid (hnext.go (Below.refl _ _).drew)
      clear hnext hcd hrk hfo hat hlen
      go_wp2_with fail
      refine wp_region_T (fun W : World => W.cell? ⟨w.heap.size, 1, none⟩ = some (.slice (some ⟨g, 0, none⟩) m c') ∧ W.cell? ⟨g, k * 4, none⟩ = some (.string fn)) (fun j => j == 20) (by kernel_rfl) ?_
      refine wpAnyT_take (i := 0) (v := ?v0) rfl (by kernel_rfl) (by kernel_rfl) (by kernel_rfl) (by kernel_rfl) (by kernel_rfl) (fun _ _ _ h => h) (Or.inl ⟨by rfl, ?y0⟩) (hS0) ?r0
      case y0 => (intro w hSw; (try dsimp only at hSw); go_simp; try with_reducible rfl)
      try simp only [Act.put, List.setIfInBounds_toArray, List.set_cons_zero, List.set_cons_succ, List.getElem_toArray, List.getElem_cons_succ, List.getElem_cons_zero]
      refine wpAnyT_take (i := 1) (v := ?v1) rfl (by kernel_rfl) (by kernel_rfl) (by kernel_rfl) (by kernel_rfl) (by kernel_rfl) (fun _ _ _ h => h) (Or.inl ⟨by rfl, ?y1⟩) (hS0) ?r1
      case y1 => (intro w hSw; (try dsimp only at hSw); go_simp; try with_reducible rfl)
      try simp only [Act.put, List.setIfInBounds_toArray, List.set_cons_zero, List.set_cons_succ, List.getElem_toArray, List.getElem_cons_succ, List.getElem_cons_zero]
      refine wpAnyT_take (i := 2) (v := ?v2) rfl (by kernel_rfl) (by kernel_rfl) (by kernel_rfl) (by kernel_rfl) (by kernel_rfl) (fun _ _ _ h => h) (Or.inl ⟨by rfl, ?y2⟩) (hS0) ?r2
      case y2 => (intro w hSw; (try dsimp only at hSw); go_simp; try with_reducible rfl)
      try simp only [Act.put, List.setIfInBounds_toArray, List.set_cons_zero, List.set_cons_succ, List.getElem_toArray, List.getElem_cons_succ, List.getElem_cons_zero]
      refine wpAnyT_take (i := 3) (v := ?v3) rfl (by kernel_rfl) (by kernel_rfl) (by kernel_rfl) (by kernel_rfl) (by kernel_rfl) (fun _ _ _ h => h) (Or.inl ⟨by rfl, ?y3⟩) (hS0) ?r3
      case y3 => (intro w hSw; (try dsimp only at hSw); go_simp; try with_reducible rfl)
      try simp only [Act.put, List.setIfInBounds_toArray, List.set_cons_zero, List.set_cons_succ, List.getElem_toArray, List.getElem_cons_succ, List.getElem_cons_zero]
      refine wpAnyT_take (i := 4) (v := ?v4) rfl (by kernel_rfl) (by kernel_rfl) (by kernel_rfl) (by kernel_rfl) (by kernel_rfl) (fun _ _ _ h => h) (Or.inl ⟨by rfl, ?y4⟩) (hS0) ?r4
      case y4 => (intro w hSw; (try dsimp only at hSw); go_simp; try with_reducible rfl)
      try simp only [Act.put, List.setIfInBounds_toArray, List.set_cons_zero, List.set_cons_succ, List.getElem_toArray, List.getElem_cons_succ, List.getElem_cons_zero]
      refine wpAnyT_take (i := 5) (v := ?v5) rfl (by kernel_rfl) (by kernel_rfl) (by kernel_rfl) (by kernel_rfl) (by kernel_rfl) (fun _ _ _ h => h) (Or.inl ⟨by rfl, ?y5⟩) (hS0) ?r5
      case y5 => (intro w hSw; (try dsimp only at hSw); go_simp; try with_reducible rfl)
      try simp only [Act.put, List.setIfInBounds_toArray, List.set_cons_zero, List.set_cons_succ, List.getElem_toArray, List.getElem_cons_succ, List.getElem_cons_zero]
      refine wpAnyT_take (i := 6) (v := ?v6) rfl (by kernel_rfl) (by kernel_rfl) (by kernel_rfl) (by kernel_rfl) (by kernel_rfl) (fun _ _ _ h => h) (Or.inl ⟨by rfl, ?y6⟩) (hS0) ?r6
      case y6 => (intro w hSw; (try dsimp only at hSw); go_simp; try with_reducible rfl)
      try simp only [Act.put, List.setIfInBounds_toArray, List.set_cons_zero, List.set_cons_succ, List.getElem_toArray, List.getElem_cons_succ, List.getElem_cons_zero]
      refine wpAnyT_take (i := 7) (v := ?v7) rfl (by kernel_rfl) (by kernel_rfl) (by kernel_rfl) (by kernel_rfl) (by kernel_rfl) (fun _ _ _ h => h) (Or.inl ⟨by rfl, ?y7⟩) (hS0) ?r7
      case y7 => (intro w hSw; (try dsimp only at hSw); go_simp; try with_reducible rfl)
      try simp only [Act.put, List.setIfInBounds_toArray, List.set_cons_zero, List.set_cons_succ, List.getElem_toArray, List.getElem_cons_succ, List.getElem_cons_zero]
      refine wpAnyT_take (i := 8) (v := ?v8) rfl (by kernel_rfl) (by kernel_rfl) (by kernel_rfl) (by kernel_rfl) (by kernel_rfl) (fun _ _ _ h => h) (Or.inl ⟨by rfl, ?y8⟩) (hS0) ?r8
      case y8 => (intro w hSw; (try dsimp only at hSw); go_simp; try with_reducible rfl)
      try simp only [Act.put, List.setIfInBounds_toArray, List.set_cons_zero, List.set_cons_succ, List.getElem_toArray, List.getElem_cons_succ, List.getElem_cons_zero]
      refine wpAnyT_take (i := 9) (v := ?v9) rfl (by kernel_rfl) (by kernel_rfl) (by kernel_rfl) (by kernel_rfl) (by kernel_rfl) (fun _ _ _ h => h) (Or.inl ⟨by rfl, ?y9⟩) (hS0) ?r9
      case y9 => (intro w hSw; (try dsimp only at hSw); go_simp; try with_reducible rfl)
      try simp only [Act.put, List.setIfInBounds_toArray, List.set_cons_zero, List.set_cons_succ, List.getElem_toArray, List.getElem_cons_succ, List.getElem_cons_zero]
      refine wpAnyT_take (i := 10) (v := ?v10) rfl (by kernel_rfl) (by kernel_rfl) (by kernel_rfl) (by kernel_rfl) (by kernel_rfl) (fun _ _ _ h => h) (Or.inl ⟨by rfl, ?y10⟩) (hS0) ?r10
      case y10 => (intro w hSw; (try dsimp only at hSw); go_simp; try with_reducible rfl)
      try simp only [Act.put, List.setIfInBounds_toArray, List.set_cons_zero, List.set_cons_succ, List.getElem_toArray, List.getElem_cons_succ, List.getElem_cons_zero]
      refine wpAnyT_take (i := 11) (v := ?v11) rfl (by kernel_rfl) (by kernel_rfl) (by kernel_rfl) (by kernel_rfl) (by kernel_rfl) (fun _ _ _ h => h) (Or.inl ⟨by rfl, ?y11⟩) (hS0) ?r11
      case y11 => (intro w hSw; (try dsimp only at hSw); go_simp; try with_reducible rfl)
      try simp only [Act.put, List.setIfInBounds_toArray, List.set_cons_zero, List.set_cons_succ, List.getElem_toArray, List.getElem_cons_succ, List.getElem_cons_zero]
      refine wpAnyT_take (i := 12) (v := ?v12) rfl (by kernel_rfl) (by kernel_rfl) (by kernel_rfl) (by kernel_rfl) (by kernel_rfl) (fun _ _ _ h => h) (Or.inl ⟨by rfl, ?y12⟩) (hS0) ?r12
      case y12 => (intro w hSw; (try dsimp only at hSw); go_simp; try with_reducible rfl)
      try simp only [Act.put, List.setIfInBounds_toArray, List.set_cons_zero, List.set_cons_succ, List.getElem_toArray, List.getElem_cons_succ, List.getElem_cons_zero]
      refine wpAnyT_take (i := 13) (v := ?v13) rfl (by kernel_rfl) (by kernel_rfl) (by kernel_rfl) (by kernel_rfl) (by kernel_rfl) (fun _ _ _ h => h) (Or.inl ⟨by rfl, ?y13⟩) (hS0) ?r13
      case y13 => (intro w hSw; (try dsimp only at hSw); go_simp; try with_reducible rfl)
      try simp only [Act.put, List.setIfInBounds_toArray, List.set_cons_zero, List.set_cons_succ, List.getElem_toArray, List.getElem_cons_succ, List.getElem_cons_zero]
      refine wpAnyT_take (i := 14) (v := ?v14) rfl (by kernel_rfl) (by kernel_rfl) (by kernel_rfl) (by kernel_rfl) (by kernel_rfl) (fun _ _ _ h => h) (Or.inl ⟨by rfl, ?y14⟩) (hS0) ?r14
      case y14 => (intro w hSw; (try dsimp only at hSw); go_simp; try with_reducible rfl)
      try simp only [Act.put, List.setIfInBounds_toArray, List.set_cons_zero, List.set_cons_succ, List.getElem_toArray, List.getElem_cons_succ, List.getElem_cons_zero]
      refine wpAnyT_run (i := 15) (by kernel_rfl) rfl (fun K hK => ?_)
      go_simp
      refine hK.out _ _ (fun _ => hS0) ?_
      clear hK K
      try simp only [Act.put, List.setIfInBounds_toArray, List.set_cons_zero, List.set_cons_succ, List.getElem_toArray, List.getElem_cons_succ, List.getElem_cons_zero]
      refine wpAnyT_run (i := 16) (by kernel_rfl) rfl (fun K hK => ?_)
      go_simp
      refine hK.out _ _ (fun _ => hS0) ?_
      clear hK K
      try simp only [Act.put, List.setIfInBounds_toArray, List.set_cons_zero, List.set_cons_succ, List.getElem_toArray, List.getElem_cons_succ, List.getElem_cons_zero]
      refine wpAnyT_run (i := 17) (by kernel_rfl) rfl (fun K hK => ?_)
      go_simp
      refine hK.out _ _ (fun _ => hS0) ?_
      clear hK K
      try simp only [Act.put, List.setIfInBounds_toArray, List.set_cons_zero, List.set_cons_succ, List.getElem_toArray, List.getElem_cons_succ, List.getElem_cons_zero]
      refine wpAnyT_run (i := 18) (by kernel_rfl) rfl (fun K hK => ?_)
      go_simp
      refine hK.out _ _ (fun _ => hS0) ?_
      clear hK K
      try simp only [Act.put, List.setIfInBounds_toArray, List.set_cons_zero, List.set_cons_succ, List.getElem_toArray, List.getElem_cons_succ, List.getElem_cons_zero]
      refine wpAnyT_run (i := 19) (by kernel_rfl) rfl (fun K hK => ?_)
      go_simp
      refine hK.out _ _ (fun _ => hS0) ?_
      clear hK K
      try simp only [Act.put, List.setIfInBounds_toArray, List.set_cons_zero, List.set_cons_succ, List.getElem_toArray, List.getElem_cons_succ, List.getElem_cons_zero]
      refine wpAnyT_run (i := 20) (by kernel_rfl) rfl (fun K hK => ?_)
      go_simp
      refine hK.out _ _ (fun h => absurd h (by decide)) ?_
      clear hK K
      try simp only [Act.put, List.setIfInBounds_toArray, List.set_cons_zero, List.set_cons_succ, List.getElem_toArray, List.getElem_cons_succ, List.getElem_cons_zero]
      refine wpAnyT_done (by kernel_rfl) ?_ _
      go_wp2_with fail
      exact ⟨⟨k + 1, by omega, by go_num, HNEXT.out⟩, by simp [intOf]; omega⟩
    · obtain rfl : k = m := by omega
      have e1 : decide ((k : Int) < (k : Int)) = false := decide_eq_false (by omega)
      have e2 : cutTo gs k = gs.map cutF := by rw [← HGL.out]; exact cutTo_end gs
      have hml : (gs.map cutF).length = k := by rw [List.length_map]; exact HGL.out
      have hst := ST.out
      rw [e2] at hst
      obtain ⟨h1, h2, h3⟩ := hst.fin hml.symm
      obtain ⟨d0, d1⟩ := hst.out.facts
      obtain ⟨f0, f1⟩ := hst.out.free
      have H1 := Lib.hid h1
      have H2 := Lib.hid h2
      have H3 := Lib.hid h3
      have HML := Lib.hid hml
      have hne : w.heap.size ≠ w.heap.size + 1 := by omega
      have hne' : w.heap.size + 1 ≠ w.heap.size := by omega
      clear hst h1 h2 h3 hml e2
      go_wp2_with fail
      generalize (wr.setCell ⟨w.heap.size + 1, 0, none⟩ (.string (cn.extract 0 r))).setCell ⟨w.heap.size + 1, 1, none⟩ (.slice p' k c') = W9 at H1 H2 H3 ⊢
      obtain ⟨x0, x1⟩ := H1.out.facts
      exact bodyPost_ret (v := clV (cn.extract 0 r) p' k c') (by simp [results, Tryd.results11, go_sem, x0, x1]) rfl ⟨p', c', by rw [HML.out], by rw [HML.out]; exact H2.out, H3.out⟩
end Go.Proofs.YtffoklhopmhjaaaDoor

/- moraineref03.plain, RightType, kind, Fits, Zero. -/
set_option linter.unusedSimpArgs false
set_option linter.unusedVariables false
namespace Go.Proofs.YtffoklhopmhjaaaDoor
open Go Go.RowKit Go.Shelf

def plB (k : Int) : Bool := decide (1 ≤ k ∧ k ≤ 4)
set_option maxHeartbeats 1000000 in
set_option maxRecDepth 100000 in
theorem plain_any (k : Int) (w : World) :
    Calls Tryd.prog 64 #[.int .i64 k] w fun e w' => e = .returned (.bool (plB k)) ∧ w = w' := by
  have hb : ∀ r, r = plB k → ∀ (e : Ending) (w' : World), (e = .returned (.bool r) ∧ w = w') → (e = .returned (.bool (plB k)) ∧ w = w') := fun r hr e w' h => by rw [← hr]; exact h
  by_cases h1 : 1 ≤ k
  · by_cases h2 : k ≤ 4
    · refine Calls.mono ?_ (hb true (decide_eq_true ⟨h1, h2⟩).symm)
      clear hb
      go_enter Tryd.func64, Tryd.ntmps64
      go_wp2_with fail
      go_ret
      exact ⟨rfl, rfl⟩
    · refine Calls.mono ?_ (hb false (decide_eq_false (by omega)).symm)
      clear hb
      go_enter Tryd.func64, Tryd.ntmps64
      go_wp2_with fail
      go_ret
      exact ⟨rfl, rfl⟩
  · refine Calls.mono ?_ (hb false (decide_eq_false (by omega)).symm)
    clear hb
    go_enter Tryd.func64, Tryd.ntmps64
    go_wp2_with fail
    go_ret
    exact ⟨rfl, rfl⟩

set_option maxHeartbeats 2000000 in
set_option maxRecDepth 100000 in
theorem rrightType_any (k o : Int) (w : World) :
    Calls Tryd.prog 50 #[.agg #[.int .i64 k, .int .i64 o]] w fun e w' => e = .returned (.bool (rtB k o)) ∧ Below w.heap.size w w' := by
  have hb : ∀ r, r = rtB k o → ∀ (e : Ending) (w' : World), (e = .returned (.bool r) ∧ Below w.heap.size w w') → (e = .returned (.bool (rtB k o)) ∧ Below w.heap.size w w') := fun r hr e w' h => by rw [← hr]; exact h
  have hB : Below w.heap.size w (w.alloc (.cells #[.int .i64 k, .int .i64 o] 51)) := (Below.refl _ _).alloc (Nat.le_refl _) _
  obtain ⟨c0, c1⟩ := (TBox.new w k o).facts
  have hk := fun W => plain_any k W
  have ho := fun W => plain_any o W
  by_cases h5 : k = 5
  · have d5 : (k == 5) = true := beq_iff_eq.2 h5
    have hr : plB o = rtB k o := by unfold rtB plB; rw [if_pos h5]
    generalize plB o = q at hr ho
    refine Calls.mono ?_ (hb q hr)
    have HO := Lib.hid ho
    clear hb hk ho hr h5
    go_enter Tryd.func50, Tryd.ntmps50
    go_wp2_with fail
    refine (HO.out _).mono ?_
    rintro e W1 ⟨rfl, rfl⟩
    go_wp2_with fail
    go_ret
    exact ⟨rfl, hB⟩
  · have d5 : (k == 5) = false := beq_eq_false_iff_ne.2 h5
    have hr : (plB k && (o == 0)) = rtB k o := by
      unfold rtB plB
      rw [if_neg h5]
      by_cases ho : o = 0
      · rw [beq_iff_eq.2 ho, Bool.and_true]; congr 1; simp [ho]
      · rw [beq_eq_false_iff_ne.2 ho, Bool.and_false]; exact (decide_eq_false (fun h => ho h.2)).symm
    generalize plB k = q at hr hk
    cases q with
    | false =>
      refine Calls.mono ?_ (hb false hr)
      have HK := Lib.hid hk
      clear hb hk ho hr h5
      go_enter Tryd.func50, Tryd.ntmps50
      go_wp2_with fail
      refine (HK.out _).mono ?_
      rintro e W1 ⟨rfl, rfl⟩
      go_wp2_with fail
      go_ret
      exact ⟨rfl, hB⟩
    | true =>
      have hr' : (o == 0) = rtB k o := hr
      generalize hq : (o == 0) = q at hr'
      refine Calls.mono ?_ (hb q hr')
      have HK := Lib.hid hk
      clear hb hk ho hr h5 hr'
      go_enter Tryd.func50, Tryd.ntmps50
      go_wp2_with fail
      refine (HK.out _).mono ?_
      rintro e W1 ⟨rfl, rfl⟩
      go_wp2_with fail
      go_ret
      exact ⟨by first | rfl | rw [hq], hB⟩

set_option maxHeartbeats 2000000 in
set_option maxRecDepth 100000 in
theorem rkind_any (x : It) (k : Int) (w : World) :
    Calls Tryd.prog 51 #[x.v, .int .i64 k] w fun e w' => e = .returned (.bool (fkB x.k k)) ∧ Below w.heap.size w w' := by
  obtain ⟨a, n, s, p, m, c⟩ := x
  simp only
  have hb : ∀ r, r = fkB a k → ∀ (e : Ending) (w' : World), (e = .returned (.bool r) ∧ Below w.heap.size w w') → (e = .returned (.bool (fkB a k)) ∧ Below w.heap.size w w') := fun r hr e w' h => by rw [← hr]; exact h
  have hB : Below w.heap.size w (w.alloc (.cells #[.int .i64 a, .int .i64 n, .string s, .slice p m c] 31)) := (Below.refl _ _).alloc (Nat.le_refl _) _
  obtain ⟨⟨c0, c1, c2, c3⟩, _⟩ := (VBox.new w a n s (.slice p m c)).facts
  by_cases h1 : a = k
  · have d1 : (a == k) = true := beq_iff_eq.2 h1
    refine Calls.mono ?_ (hb true (decide_eq_true (.inl h1)).symm)
    clear hb h1
    go_enter Tryd.func51, Tryd.ntmps51
    go_wp2_with fail
    go_ret
    exact ⟨rfl, hB⟩
  · have d1 : (a == k) = false := beq_eq_false_iff_ne.2 h1
    by_cases h2 : a = 0
    · have d2 : (a == 0) = true := beq_iff_eq.2 h2
      by_cases h3 : k = 3
      · have d3 : (k == 3) = true := beq_iff_eq.2 h3
        refine Calls.mono ?_ (hb true (decide_eq_true (.inr ⟨h2, .inl h3⟩)).symm)
        clear hb h1 h2 h3
        go_enter Tryd.func51, Tryd.ntmps51
        go_wp2_with fail
        go_ret
        exact ⟨rfl, hB⟩
      · have d3 : (k == 3) = false := beq_eq_false_iff_ne.2 h3
        by_cases h4 : k = 4
        · have d4 : (k == 4) = true := beq_iff_eq.2 h4
          refine Calls.mono ?_ (hb true (decide_eq_true (.inr ⟨h2, .inr h4⟩)).symm)
          clear hb h1 h2 h3 h4
          go_enter Tryd.func51, Tryd.ntmps51
          go_wp2_with fail
          go_ret
          exact ⟨rfl, hB⟩
        · have d4 : (k == 4) = false := beq_eq_false_iff_ne.2 h4
          refine Calls.mono ?_ (hb false (decide_eq_false (by omega)).symm)
          clear hb h1 h2 h3 h4
          go_enter Tryd.func51, Tryd.ntmps51
          go_wp2_with fail
          go_ret
          exact ⟨rfl, hB⟩
    · have d2 : (a == 0) = false := beq_eq_false_iff_ne.2 h2
      refine Calls.mono ?_ (hb false (decide_eq_false (by omega)).symm)
      clear hb h1 h2
      go_enter Tryd.func51, Tryd.ntmps51
      go_wp2_with fail
      go_ret
      exact ⟨rfl, hB⟩

theorem fitsB_ref (v : V) (k o : Int) : fitsB v k o = (v.ok && (rtB k o && (fkB v.k k && v.l.all (fun u => fkB u.k o)))) := by
  unfold fitsB
  cases hr : rtB k o with
  | false => simp
  | true =>
    cases hok : v.ok with
    | false => simp
    | true =>
      simp only [Bool.true_and, Bool.and_true]
      by_cases h5 : k = 5
      · rw [if_pos h5, Bool.and_comm]
        congr 1
        unfold fkB
        rw [h5]
        by_cases hv : v.k = 5
        · rw [beq_iff_eq.2 hv, decide_eq_true (.inl hv)]
        · rw [beq_eq_false_iff_ne.2 hv, decide_eq_false (by omega)]
      · rw [if_neg h5]
        cases hf : fkB v.k k with
        | false => rfl
        | true =>
          have hf := of_decide_eq_true hf
          have hv5 : v.k ≠ 5 := by omega
          have hl : v.l = [] := by
            have := (flatOk_parts (ok_flat hok hv5)).2.2.1
            exact List.eq_nil_of_length_eq_zero this
          rw [hl]; rfl

set_option maxHeartbeats 4000000 in
set_option maxRecDepth 100000 in
theorem rfits_V (d : Nat) (v : V) (x : It) (k o : Int) (w : World) (hx : VAt d w v x) (hsh : v.short) :
    Calls Tryd.prog 27 #[x.v, .agg #[.int .i64 k, .int .i64 o]] w fun e w' => e = .returned (.bool (fitsB v k o)) ∧ Below w.heap.size w w' := by
  rw [fitsB_ref]
  have hright := fun W (hb : Below w.heap.size w W) => rright_V d v x W (hx.below hb) hsh
  obtain ⟨hfine, hk, hn, hs, ys, hlen, hlies, hin⟩ := hx.top
  have hym : x.m = ys.length := by have := hx.top.len; omega
  have hyk : ∀ (i : Nat) (h : i < ys.length) (h' : i < v.l.length), ys[i].k = v.l[i].k := fun i h h' => (hin i h h').same.1
  have hlm : ys.length ≤ 9223372036854775807 := by rw [hlen]; exact hfine.l
  have hall : v.l.all (fun u => fkB u.k o) = ys.all (fun y => fkB y.k o) := by
    have g1 : v.l.all (fun u => fkB u.k o) = (v.l.map V.k).all (fun a => fkB a o) := by rw [List.all_map]; rfl
    have g2 : ys.all (fun y => fkB y.k o) = (ys.map It.k).all (fun a => fkB a o) := by rw [List.all_map]; rfl
    rw [g1, g2, items_map (It.k) (V.k) hlen (fun i a b => hyk i a b)]
  rw [hall, ← hk]
  generalize v.ok = rt at hright ⊢
  clear hall hyk hin hlen hfine hx hk hn hs
  have hkind := fun W => rkind_any x k W
  have hkinds := fun (y : It) W => rkind_any y o W
  have hrty := fun W => rrightType_any k o W
  generalize fkB x.k k = fk at hkind ⊢
  obtain ⟨a, n, s, p, m, c⟩ := x
  simp only at hym hright hlies hkind ⊢
  subst hym
  generalize rtB k o = t at hrty ⊢
  generalize hr : (rt && (t && (fk && ys.all (fun y => fkB y.k o)))) = r
  have hb2 : Below w.heap.size w ((w.alloc (.cells #[.int .i64 a, .int .i64 n, .string s, .slice p ys.length c] 31)).alloc (.cells #[.int .i64 k, .int .i64 o] 51)) := below_two _ _
  have hV0 := (VBox.new w a n s (.slice p ys.length c)).alloc (.cells #[.int .i64 k, .int .i64 o] 51)
  have hT0 := TBox.new (w.alloc (.cells #[.int .i64 a, .int .i64 n, .string s, .slice p ys.length c] 31)) k o
  rw [World.size_alloc] at hT0
  have HR := Lib.hid hr
  have HRIGHT := Lib.hid hright
  have HLIES := Lib.hid hlies
  have HKIND := Lib.hid hkind
  have HKINDS := Lib.hid hkinds
  have HRTY := Lib.hid hrty
  have HB2 := Lib.hid hb2
  have HV0 := Lib.hid hV0
  have HT0 := Lib.hid hT0
  clear hr hright hlies hb2 hV0 hT0 hkind hkinds hrty
  have h01 : w.heap.size ≠ w.heap.size + 1 := by omega
  go_enter Tryd.func27, Tryd.ntmps27
  obtain ⟨⟨c0, c1, c2, c3⟩, f0, f1, f2, f3⟩ := HV0.out.facts
  go_wp2_with fail
  refine (HRIGHT.out _ HB2.out).mono ?_
  rintro e W1 ⟨rfl, hB1⟩
  have hbw := HB2.out.trans (hB1.mono (by simp; omega))
  have hV1 := HV0.out.below hB1
  have hT1 := HT0.out.below hB1
  clear c0 c1 c2 c3 f0 f1 f2 f3
  generalize ((w.alloc (.cells #[.int .i64 a, .int .i64 n, .string s, .slice p ys.length c] 31)).alloc (.cells #[.int .i64 k, .int .i64 o] 51)) = W0 at hB1
  clear hB1 HB2 HV0 HT0
  obtain ⟨e0, e1⟩ := hT1.facts
  have HV1 := Lib.hid hV1
  have HT1 := Lib.hid hT1
  have HBW := Lib.hid hbw
  clear hV1 hT1 hbw
  go_wp2_with fail
  refine (HRTY.out _).mono ?_
  rintro e W2 ⟨rfl, hB2⟩
  have hV2 := HV1.out.below hB2
  have hT2 := HT1.out.below hB2
  have hbw2 := HBW.out.trans (hB2.mono HBW.out.size)
  clear hB2 e0 e1 HV1 HT1 HBW HRIGHT HRTY
  cases rt with
  | false =>
    have hz : r = false := by rw [← HR.out]; rfl
    have HZ := Lib.hid hz
    have HBW := Lib.hid hbw2
    clear hz hbw2 hV2 hT2
    go_wp2_with fail
    go_ret
    exact ⟨by rw [HZ.out]; rfl, HBW.out⟩
  | true =>
    cases t with
    | false =>
      have hz : r = false := by rw [← HR.out]; rfl
      have HZ := Lib.hid hz
      have HBW := Lib.hid hbw2
      clear hz hbw2 hV2 hT2
      go_wp2_with fail
      go_ret
      exact ⟨by rw [HZ.out]; rfl, HBW.out⟩
    | true =>
      obtain ⟨⟨c0, c1, c2, c3⟩, f0, f1, f2, f3⟩ := hV2.facts
      obtain ⟨e0, e1⟩ := hT2.facts
      have HV2 := Lib.hid hV2
      have HT2 := Lib.hid hT2
      have HBW := Lib.hid hbw2
      clear hV2 hT2 hbw2
      go_wp2_with fail
      refine (HKIND.out _).mono ?_
      rintro e W3 ⟨rfl, hB3⟩
      have hV3 := HV2.out.below hB3
      have hT3 := HT2.out.below hB3
      have hbw3 := HBW.out.trans (hB3.mono HBW.out.size)
      clear hB3 c0 c1 c2 c3 f0 f1 f2 f3 e0 e1 HV2 HT2 HBW HKIND
      have HV3 := Lib.hid hV3
      have HT3 := Lib.hid hT3
      have HBW := Lib.hid hbw3
      clear hV3 hT3 hbw3
      cases fk with
      | false =>
        have hz : r = false := by rw [← HR.out]; rfl
        have HZ := Lib.hid hz
        clear hz
        go_wp2_with fail
        go_ret
        exact ⟨by rw [HZ.out]; rfl, HBW.out⟩
      | true =>
        have hr : r = ys.all (fun y => fkB y.k o) := by rw [← HR.out]; rfl
        have HR5 := Lib.hid hr
        clear hr HR
        go_wp2_with fail
        go_loopw [7] (fun i wr => ∃ j : Nat, j ≤ ys.length ∧ i = .int .i64 (j : Int) ∧ (ys.take j).all (fun y => fkB y.k o) = true ∧ Below w.heap.size w wr ∧ VBox wr w.heap.size a n s (.slice p ys.length c) ∧ TBox wr (w.heap.size + 1) k o) (fun i _ => ys.length - (intOf i).toNat)
        case atStart => exact ⟨0, by omega, rfl, rfl, HBW.out, HV3.out, HT3.out⟩
        case round =>
          obtain ⟨j, hj, rfl, he, hB, hVr, hTr⟩ := hrel
          clear HV3 HT3 HBW
          have HE := Lib.hid he; clear he
          obtain ⟨⟨c0, c1, c2, c3⟩, f0, f1, f2, f3⟩ := hVr.facts
          by_cases hlt : j < ys.length
          · have d0 : (0 : Int) ≤ (j : Int) := by omega
            have d2 : (j : Int) < (ys.length : Int) := by omega
            have d2' : decide ((j : Int) < (ys.length : Int)) = true := decide_eq_true d2
            obtain ⟨b, off, rfl, hb, hc⟩ := HLIES.out.at (by omega)
            obtain ⟨y, hy⟩ : ∃ y, ys[j] = y := ⟨_, rfl⟩
            have hcx : ∀ (i : Nat) (u : Value), (y.cells)[i]? = some u → wr.cell? ⟨b, off + j * 4 + i, none⟩ = some u := fun i u hu => by
              rw [hB.cell (p := ⟨b, off + j * 4 + i, none⟩) hb, Nat.add_assoc]
              exact hc _ _ (itsCells_at ys j hlt i u (by rw [hy]; exact hu))
            obtain ⟨z0, z1, z2, z3⟩ := cell_four (W := wr) (b := b) (off := off) (k := j) (x := y) hcx
            obtain ⟨e0, e1⟩ := hTr.facts
            have hno : fkB y.k o = false → r = false := fun h => by rw [HR5.out, all_no hlt (f := fun y => fkB y.k o) (by show fkB ys[j].k o = false; rw [hy]; exact h)]
            have hyes : fkB y.k o = true → (ys.take (j + 1)).all (fun y => fkB y.k o) = true := fun h => all_take hlt HE.out (by show fkB ys[j].k o = true; rw [hy]; exact h)
            have hcall : ∀ W', Below wr.heap.size wr W' → Calls Tryd.prog 51 #[y.v, .int .i64 o] W' fun e W'' => e = .returned (.bool (fkB y.k o)) ∧ Below wr.heap.size wr W'' := fun W' h => (HKINDS.out y W').mono (fun e W'' h2 => ⟨h2.1, h.trans (h2.2.mono h.size)⟩)
            generalize fkB y.k o = q at hno hyes hcall
            obtain ⟨yk, yn, yss, yp, ym, yc⟩ := y
            simp only at z0 z1 z2 z3 hcall
            have hTS : wr.cell? ⟨w.heap.size, 3, none⟩ = some (.slice (some ⟨b, off, none⟩) ys.length c) ∧ wr.cell? ⟨w.heap.size + 1, 1, none⟩ = some (.int .i64 o) ∧ wr.cell? ⟨b, off + j * 4, none⟩ = some (.int .i64 yk) ∧ wr.cell? ⟨b, off + j * 4 + 1, none⟩ = some (.int .i64 yn) ∧ wr.cell? ⟨b, off + j * 4 + 2, none⟩ = some (.string yss) ∧ wr.cell? ⟨b, off + j * 4 + 3, none⟩ = some (.slice yp ym yc) ∧ VBox wr w.heap.size a n s (.slice (some ⟨b, off, none⟩) ys.length c) ∧ TBox wr (w.heap.size + 1) k o ∧ Below w.heap.size w wr := ⟨c3, e1, z0, z1, z2, z3, hVr, hTr, hB⟩
            have hTW : ∀ W', Below wr.heap.size wr W' → W'.cell? ⟨w.heap.size, 3, none⟩ = some (.slice (some ⟨b, off, none⟩) ys.length c) ∧ W'.cell? ⟨w.heap.size + 1, 1, none⟩ = some (.int .i64 o) ∧ W'.cell? ⟨b, off + j * 4, none⟩ = some (.int .i64 yk) ∧ W'.cell? ⟨b, off + j * 4 + 1, none⟩ = some (.int .i64 yn) ∧ W'.cell? ⟨b, off + j * 4 + 2, none⟩ = some (.string yss) ∧ W'.cell? ⟨b, off + j * 4 + 3, none⟩ = some (.slice yp ym yc) ∧ VBox W' w.heap.size a n s (.slice (some ⟨b, off, none⟩) ys.length c) ∧ TBox W' (w.heap.size + 1) k o ∧ Below w.heap.size w W' := by
              intro W' hB'
              have z1' : w.heap.size < wr.heap.size := hVr.lt
              have z2' : w.heap.size + 1 < wr.heap.size := hTr.lt
              have z3' : b < wr.heap.size := by omega
              have g : ∀ (q : Addr) (v : Value), q.block < wr.heap.size → wr.cell? q = some v → W'.cell? q = some v := fun q v hq hv => (hB'.cell hq).trans hv
              exact ⟨g _ _ z1' c3, g _ _ z2' e1, g _ _ z3' z0, g _ _ z3' z1, g _ _ z3' z2, g _ _ z3' z3, hVr.below hB', hTr.below hB', hB.trans (hB'.mono hB.size)⟩
            have HNO := Lib.hid hno
            have HYES := Lib.hid hyes
            have HC := Lib.hid hcall
            have HTW := Lib.hid hTW
            have HTS := Lib.hid hTS
            clear hno hyes hcall hTW hVr hTr hy hcx hc hB f0 f1 f2 f3 c0 c1 c2 e0
            go_wp2_with fail
            have hTS := HTS.out
            go_region_held3 (fun W' : World => W'.cell? ⟨w.heap.size, 3, none⟩ = some (.slice (some ⟨b, off, none⟩) ys.length c) ∧ W'.cell? ⟨w.heap.size + 1, 1, none⟩ = some (.int .i64 o) ∧ W'.cell? ⟨b, off + j * 4, none⟩ = some (.int .i64 yk) ∧ W'.cell? ⟨b, off + j * 4 + 1, none⟩ = some (.int .i64 yn) ∧ W'.cell? ⟨b, off + j * 4 + 2, none⟩ = some (.string yss) ∧ W'.cell? ⟨b, off + j * 4 + 3, none⟩ = some (.slice yp ym yc) ∧ VBox W' w.heap.size a n s (.slice (some ⟨b, off, none⟩) ys.length c) ∧ TBox W' (w.heap.size + 1) k o ∧ Below w.heap.size w W')
              (first | assumption | exact HTW.out _ (Below.refl _ wr).drew | exact HTW.out _ (by assumption))
              (first | (go_at_call 51; (refine (HC.out _ (Below.refl _ wr).drew).mono ?_); rintro e W1 ⟨rfl, hB1⟩))
            all_goals
              obtain ⟨_, _, _, _, _, _, hVq, hTq, hBW⟩ := HTW.out _ hB1
              cases q with
              | true =>
                have htk := HYES.out rfl
                have HTK := Lib.hid htk
                clear htk
                go_wp2_with fail
                exact ⟨⟨j + 1, by omega, by go_num, HTK.out, hBW, hVq, hTq⟩, by simp [intOf]; omega⟩
              | false =>
                have hz := HNO.out rfl
                have HZ := Lib.hid hz
                clear hz
                go_wp2_with fail
                go_ret
                exact ⟨by rw [HZ.out]; rfl, hBW⟩
          · obtain rfl : j = ys.length := by omega
            have d2' : decide ((ys.length : Int) < (ys.length : Int)) = false := decide_eq_false (by omega)
            have hr : r = true := by
              rw [HR5.out]
              have := HE.out
              rwa [List.take_of_length_le (Nat.le_refl _)] at this
            have HQ := Lib.hid hr
            clear hr
            go_wp2_with fail
            go_ret
            exact ⟨by rw [HQ.out]; rfl, hB⟩

end Go.Proofs.YtffoklhopmhjaaaDoor

/- moraineref04.Check. -/
set_option linter.unusedSimpArgs false
set_option linter.unusedVariables false
namespace Go.Proofs.YtffoklhopmhjaaaDoor
open Go Go.RowKit Go.Shelf

theorem fits_okB {v : V} {k o : Int} (h : v.ok = false) : fitsB v k o = false := by
  unfold fitsB
  rw [h, Bool.and_false]; rfl

set_option maxHeartbeats 8000000 in
set_option maxRecDepth 100000 in
theorem rclsCheck_any (d : Nat) (cn : ByteArray) (p : Option Addr) (m c : Nat) (fs : List Fl) (hcn : cn.size ≤ 9223372036854775807) (hff : ∀ f ∈ fs, f.fine) (vs : List V) (hsh : ∀ v ∈ vs, v.short) (q : Option Addr) (m2 c2 : Nat) (w : World) (hl : FLies w p m c fs) (hm : m ≤ 9223372036854775807) (hv : VsAt d w vs q m2 c2) (hm2 : m2 ≤ 9223372036854775807) :
    Calls Tryd.prog 13 #[clV cn p m c, .slice q m2 c2] w fun e w' => e = .returned (.tuple #[.int .i64 (checkC ⟨cn, fs⟩ vs).1, .int .i64 (checkC ⟨cn, fs⟩ vs).2]) ∧ Below w.heap.size w w' := by
  have hb : Below w.heap.size w (w.alloc (.cells #[.string cn, .slice p m c] 27)) := (Below.refl _ _).alloc (Nat.le_refl _) _
  have hright := rclsRight_any cn p m c fs hcn hff _ (hl.below hb) hm
  obtain ⟨rfl, hL⟩ := hl
  obtain ⟨ys, rfl, hlen, hvl, hvi⟩ := hv
  have hC := CBox.new w cn p fs.length c
  have hbad1 : (Cl.mk cn fs).ok = false → checkC ⟨cn, fs⟩ vs = (0, 40) := fun h => by unfold checkC; rw [if_pos h]
  have hbad2 : (Cl.mk cn fs).ok = true → vs.length ≠ fs.length → checkC ⟨cn, fs⟩ vs = (min (vs.length : Int) (fs.length : Int), 42) := fun h h2 => by unfold checkC; rw [if_neg (by rw [h]; decide), if_pos h2]
  have hbad3 : (Cl.mk cn fs).ok = true → vs.length = fs.length → ∀ k, k < fs.length → (∀ j, j < k → fitAt fs vs j = true) → fitAt fs vs k = false → checkC ⟨cn, fs⟩ vs = ((k : Int), 42) := fun h h2 k hk hj hk2 => by unfold checkC; rw [if_neg (by rw [h]; decide), if_neg (fun e => e h2), show (Cl.mk cn fs).fs = fs from rfl, misfit_at hk hj hk2]
  have hgood : (Cl.mk cn fs).ok = true → vs.length = fs.length → (∀ j, j < fs.length → fitAt fs vs j = true) → checkC ⟨cn, fs⟩ vs = (0, 0) := fun h h2 hj => by unfold checkC; rw [if_neg (by rw [h]; decide), if_neg (fun e => e h2), show (Cl.mk cn fs).fs = fs from rfl, misfit_none hj]
  generalize checkC ⟨cn, fs⟩ vs = r at hbad1 hbad2 hbad3 hgood ⊢
  obtain ⟨r1, r2⟩ := r
  simp only
  generalize (Cl.mk cn fs).ok = ok at hright hbad1 hbad2 hbad3 hgood
  have HL := Lib.hid hL
  have HB := Lib.hid hb
  have HC := Lib.hid hC
  have HR := Lib.hid hright
  have HBAD1 := Lib.hid hbad1
  have HBAD2 := Lib.hid hbad2
  have HBAD3 := Lib.hid hbad3
  have HGOOD := Lib.hid hgood
  have HVL := Lib.hid hvl
  have HVI := Lib.hid hvi
  have HLEN := Lib.hid hlen
  have HSH := Lib.hid hsh
  clear hL hb hC hright hbad1 hbad2 hbad3 hgood hvl hvi hlen hsh
  go_enter Tryd.func13, Tryd.ntmps13
  go_wp2_with fail
  refine HR.out.mono ?_
  rintro e W1 ⟨rfl, hB1⟩
  have hC1 := HC.out.below hB1
  have hBw := HB.out.trans (hB1.mono HB.out.size)
  have HC1 := Lib.hid hC1
  have HBW := Lib.hid hBw
  obtain ⟨c0, c1⟩ := hC1.facts
  clear hB1 hC1 hBw HB HC HR
  cases ok with
  | false =>
    have hz := HBAD1.out rfl
    have HZ1 := Lib.hid (congrArg Prod.fst hz)
    have HZ2 := Lib.hid (congrArg Prod.snd hz)
    clear hz
    go_wp2_with fail
    go_ret2
    exact ⟨by rw [HZ1.out, HZ2.out] <;> rfl, HBW.out⟩
  | true =>
    by_cases hn : ys.length = fs.length
    · have n1 : ((ys.length : Int) != (fs.length : Int)) = false := by rw [bne_eq_false_iff_eq]; omega
      have HN := Lib.hid hn
      clear hn
      go_wp2_with fail
      clear c0 c1
      go_loopw [6] (fun i wr => ∃ k : Nat, k ≤ fs.length ∧ i = .int .i64 (k : Int) ∧ (∀ j, j < k → fitAt fs vs j = true) ∧ Below w.heap.size w wr ∧ CBox wr w.heap.size cn p fs.length c) (fun i _ => fs.length - (intOf i).toNat)
      case atStart => exact ⟨0, by omega, rfl, fun j h => absurd h (by omega), HBW.out, HC1.out⟩
      case round =>
        obtain ⟨k, hk, rfl, he, hB, hCr⟩ := hrel
        have HE := Lib.hid he; clear he
        by_cases hlt : k < fs.length
        · have hlt2 : k < ys.length := by rw [HN.out]; exact hlt
          have hlt3 : k < vs.length := by rw [← HLEN.out]; exact hlt2
          have e1 : decide ((k : Int) < (ys.length : Int)) = true := decide_eq_true (by omega)
          have e1' : (k : Int) < (ys.length : Int) := by omega
          have e1'' : (k : Int) < (fs.length : Int) := by omega
          have e0 : (0 : Int) ≤ (k : Int) := by omega
          obtain ⟨b, off, rfl, hbb, hc⟩ := HL.out.at (by omega)
          obtain ⟨b', off', rfl, hbb', hc'⟩ := HVL.out.at (by omega)
          have hcx : ∀ (i : Nat) (u : Value), ((fs[k]'hlt).cells)[i]? = some u → wr.cell? ⟨b, off + k * 4 + i, none⟩ = some u := fun i u hu => by
            rw [hB.cell (p := ⟨b, off + k * 4 + i, none⟩) hbb, Nat.add_assoc]
            exact hc _ _ (flCells_at fs k hlt i u hu)
          have hcy : ∀ (i : Nat) (u : Value), ((ys[k]'hlt2).cells)[i]? = some u → wr.cell? ⟨b', off' + k * 4 + i, none⟩ = some u := fun i u hu => by
            rw [hB.cell (p := ⟨b', off' + k * 4 + i, none⟩) hbb', Nat.add_assoc]
            exact hc' _ _ (itsCells_at ys k hlt2 i u hu)
          have hfa := fitAt_of hlt hlt3
          have hva := HVI.out k hlt2 hlt3
          have hshk := HSH.out _ (List.getElem_mem hlt3)
          have hbad := fun h1 => HBAD3.out (by simp) (by rw [← HLEN.out]; exact HN.out) k hlt HE.out h1
          have hnx : fitAt fs vs k = true → ∀ j, j < k + 1 → fitAt fs vs j = true := fun h j hj => by
            rcases Nat.lt_or_ge j k with h1 | h1
            · exact HE.out j h1
            · have e : j = k := by omega
              subst e; exact h
          generalize fitAt fs vs k = ft at hfa hbad hnx
          have hfit := fun W (h : Below wr.heap.size wr W) => rfits_V d vs[k] ys[k] fs[k].k fs[k].o W ((hva.below hB).below h) hshk
          have hrig := fun W (h : Below wr.heap.size wr W) => rright_V d vs[k] ys[k] W ((hva.below hB).below h) hshk
          rw [← hfa] at hfit
          have hokf : (vs[k]'hlt3).ok = false → ft = false := fun h => by rw [hfa]; exact fits_okB h
          generalize (vs[k]'hlt3).ok = vok at hrig hokf
          generalize fs[k]'hlt = f at hcx hfit hfa
          generalize ys[k]'hlt2 = y at hcy hfit hrig hva
          obtain ⟨fn, fk, fo, fx⟩ := f
          obtain ⟨yk, yn, yz, yp, ym, yc⟩ := y
          have hfit2 : ∀ W, Below wr.heap.size wr W → Calls Tryd.prog 27 #[.agg #[.int .i64 yk, .int .i64 yn, .string yz, .slice yp ym yc], .agg #[.int .i64 fk, .int .i64 fo]] W fun e w' => e = .returned (.bool ft) ∧ Below W.heap.size W w' := hfit
          have hrig2 : ∀ W, Below wr.heap.size wr W → Calls Tryd.prog 26 #[.agg #[.int .i64 yk, .int .i64 yn, .string yz, .slice yp ym yc]] W fun e w' => e = .returned (.bool vok) ∧ Below W.heap.size W w' := hrig
          have z1 : wr.cell? ⟨b, off + k * 4 + 1, none⟩ = some (.int .i64 fk) := hcx 1 _ rfl
          have z2 : wr.cell? ⟨b, off + k * 4 + 2, none⟩ = some (.int .i64 fo) := hcx 2 _ rfl
          have y0 : wr.cell? ⟨b', off' + k * 4, none⟩ = some (.int .i64 yk) := hcy 0 _ rfl
          have y1 : wr.cell? ⟨b', off' + k * 4 + 1, none⟩ = some (.int .i64 yn) := hcy 1 _ rfl
          have y2 : wr.cell? ⟨b', off' + k * 4 + 2, none⟩ = some (.string yz) := hcy 2 _ rfl
          have y3 : wr.cell? ⟨b', off' + k * 4 + 3, none⟩ = some (.slice yp ym yc) := hcy 3 _ rfl
          have hbz : b < wr.heap.size := Nat.lt_of_lt_of_le hbb hB.size
          have hbz' : b' < wr.heap.size := Nat.lt_of_lt_of_le hbb' hB.size
          have g1 := hCr.facts.2
          have hsw : ∀ W', Below wr.heap.size wr W' → W'.cell? ⟨b, off + k * 4 + 1, none⟩ = some (.int .i64 fk) ∧ W'.cell? ⟨b, off + k * 4 + 2, none⟩ = some (.int .i64 fo) ∧ W'.cell? ⟨w.heap.size, 1, none⟩ = some (.slice (some ⟨b, off, none⟩) fs.length c) ∧ W'.cell? ⟨b', off' + k * 4, none⟩ = some (.int .i64 yk) ∧ W'.cell? ⟨b', off' + k * 4 + 1, none⟩ = some (.int .i64 yn) ∧ W'.cell? ⟨b', off' + k * 4 + 2, none⟩ = some (.string yz) ∧ W'.cell? ⟨b', off' + k * 4 + 3, none⟩ = some (.slice yp ym yc) := fun W' h =>
            ⟨(h.cell (p := ⟨b, off + k * 4 + 1, none⟩) hbz).trans z1, (h.cell (p := ⟨b, off + k * 4 + 2, none⟩) hbz).trans z2, (h.cell (p := ⟨w.heap.size, 1, none⟩) hCr.lt).trans g1, (h.cell (p := ⟨b', off' + k * 4, none⟩) hbz').trans y0, (h.cell (p := ⟨b', off' + k * 4 + 1, none⟩) hbz').trans y1, (h.cell (p := ⟨b', off' + k * 4 + 2, none⟩) hbz').trans y2, (h.cell (p := ⟨b', off' + k * 4 + 3, none⟩) hbz').trans y3⟩
          have hd0 : Below wr.heap.size wr wr.drew := (Below.refl _ _).drew
          have hS0 := hsw wr.drew hd0
          have HSW := Lib.hid hsw
          have HD0 := Lib.hid hd0
          have HFIT2 := Lib.hid hfit2
          have HRIG2 := Lib.hid hrig2
          have HOKF := Lib.hid hokf
          have HBAD := Lib.hid hbad
          have HNX := Lib.hid hnx
          have HCR := Lib.hid hCr
          have HBR := Lib.hid hB
          clear hcx hcy hc hc' hfa hva hshk hbad hnx hfit hrig hfit2 hrig2 hokf hsw hd0 hCr hB z1 z2 y0 y1 y2 y3
          cases vok with
          | false =>
            obtain rfl := HOKF.out rfl
            go_wp2_with fail
            refine wp_region_T (fun W : World => W.cell? ⟨b, off + k * 4 + 1, none⟩ = some (.int .i64 fk) ∧ W.cell? ⟨b, off + k * 4 + 2, none⟩ = some (.int .i64 fo) ∧ W.cell? ⟨w.heap.size, 1, none⟩ = some (.slice (some ⟨b, off, none⟩) fs.length c) ∧ W.cell? ⟨b', off' + k * 4, none⟩ = some (.int .i64 yk) ∧ W.cell? ⟨b', off' + k * 4 + 1, none⟩ = some (.int .i64 yn) ∧ W.cell? ⟨b', off' + k * 4 + 2, none⟩ = some (.string yz) ∧ W.cell? ⟨b', off' + k * 4 + 3, none⟩ = some (.slice yp ym yc)) (fun j => false) (by kernel_rfl) ?_
            refine wpAnyT_take (i := 0) (v := ?va0) rfl (by kernel_rfl) (by kernel_rfl) (by kernel_rfl) (by kernel_rfl) (by kernel_rfl) (fun _ _ _ h => h) (Or.inl ⟨by rfl, ?ya0⟩) (hS0) ?ra0
            case ya0 => (intro w hSw; (try dsimp only at hSw); go_simp; try with_reducible rfl)
            try simp only [Act.put, List.setIfInBounds_toArray, List.set_cons_zero, List.set_cons_succ, List.getElem_toArray, List.getElem_cons_succ, List.getElem_cons_zero]
            refine wpAnyT_take (i := 1) (v := ?va1) rfl (by kernel_rfl) (by kernel_rfl) (by kernel_rfl) (by kernel_rfl) (by kernel_rfl) (fun _ _ _ h => h) (Or.inl ⟨by rfl, ?ya1⟩) (hS0) ?ra1
            case ya1 => (intro w hSw; (try dsimp only at hSw); go_simp; try with_reducible rfl)
            try simp only [Act.put, List.setIfInBounds_toArray, List.set_cons_zero, List.set_cons_succ, List.getElem_toArray, List.getElem_cons_succ, List.getElem_cons_zero]
            refine wpAnyT_take (i := 2) (v := ?va2) rfl (by kernel_rfl) (by kernel_rfl) (by kernel_rfl) (by kernel_rfl) (by kernel_rfl) (fun _ _ _ h => h) (Or.inl ⟨by rfl, ?ya2⟩) (hS0) ?ra2
            case ya2 => (intro w hSw; (try dsimp only at hSw); go_simp; try with_reducible rfl)
            try simp only [Act.put, List.setIfInBounds_toArray, List.set_cons_zero, List.set_cons_succ, List.getElem_toArray, List.getElem_cons_succ, List.getElem_cons_zero]
            refine wpAnyT_take (i := 3) (v := ?va3) rfl (by kernel_rfl) (by kernel_rfl) (by kernel_rfl) (by kernel_rfl) (by kernel_rfl) (fun _ _ _ h => h) (Or.inl ⟨by rfl, ?ya3⟩) (hS0) ?ra3
            case ya3 => (intro w hSw; (try dsimp only at hSw); go_simp; try with_reducible rfl)
            try simp only [Act.put, List.setIfInBounds_toArray, List.set_cons_zero, List.set_cons_succ, List.getElem_toArray, List.getElem_cons_succ, List.getElem_cons_zero]
            refine wpAnyT_run (i := 4) (by kernel_rfl) rfl (fun K hK => ?_)
            go_simp
            (refine (HRIG2.out _ HD0.out).mono ?_; rintro e Y1 ⟨rfl, hBY⟩)
            have hBZ := HD0.out.trans (hBY.mono HD0.out.size)
            have hS1 := HSW.out _ hBZ
            go_wp2_with fail
            refine hK.out _ _ (fun _ => hS1) ?_
            clear hK K
            try simp only [Act.put, List.setIfInBounds_toArray, List.set_cons_zero, List.set_cons_succ, List.getElem_toArray, List.getElem_cons_succ, List.getElem_cons_zero]
            refine wpAnyT_take (i := 5) (v := ?va5) rfl (by kernel_rfl) (by kernel_rfl) (by kernel_rfl) (by kernel_rfl) (by kernel_rfl) (fun _ _ _ h => h) (Or.inl ⟨by rfl, ?ya5⟩) (hS1) ?ra5
            case ya5 => (intro w hSw; (try dsimp only at hSw); go_simp; try with_reducible rfl)
            try simp only [Act.put, List.setIfInBounds_toArray, List.set_cons_zero, List.set_cons_succ, List.getElem_toArray, List.getElem_cons_succ, List.getElem_cons_zero]
            refine wpAnyT_take (i := 6) (v := ?va6) rfl (by kernel_rfl) (by kernel_rfl) (by kernel_rfl) (by kernel_rfl) (by kernel_rfl) (fun _ _ _ h => h) (Or.inl ⟨by rfl, ?ya6⟩) (hS1) ?ra6
            case ya6 => (intro w hSw; (try dsimp only at hSw); go_simp; try with_reducible rfl)
            try simp only [Act.put, List.setIfInBounds_toArray, List.set_cons_zero, List.set_cons_succ, List.getElem_toArray, List.getElem_cons_succ, List.getElem_cons_zero]
            refine wpAnyT_take (i := 7) (v := undef) rfl (by kernel_rfl) (by kernel_rfl) (by kernel_rfl) (by kernel_rfl) (by kernel_rfl) (fun _ _ _ h => h) (Or.inr ⟨by rfl, rfl⟩) (hS1) ?_
            try simp only [Act.put, List.setIfInBounds_toArray, List.set_cons_zero, List.set_cons_succ, List.getElem_toArray, List.getElem_cons_succ, List.getElem_cons_zero]
            refine wpAnyT_take (i := 8) (v := undef) rfl (by kernel_rfl) (by kernel_rfl) (by kernel_rfl) (by kernel_rfl) (by kernel_rfl) (fun _ _ _ h => h) (Or.inr ⟨by rfl, rfl⟩) (hS1) ?_
            try simp only [Act.put, List.setIfInBounds_toArray, List.set_cons_zero, List.set_cons_succ, List.getElem_toArray, List.getElem_cons_succ, List.getElem_cons_zero]
            refine wpAnyT_take (i := 9) (v := undef) rfl (by kernel_rfl) (by kernel_rfl) (by kernel_rfl) (by kernel_rfl) (by kernel_rfl) (fun _ _ _ h => h) (Or.inr ⟨by rfl, rfl⟩) (hS1) ?_
            try simp only [Act.put, List.setIfInBounds_toArray, List.set_cons_zero, List.set_cons_succ, List.getElem_toArray, List.getElem_cons_succ, List.getElem_cons_zero]
            refine wpAnyT_take (i := 10) (v := undef) rfl (by kernel_rfl) (by kernel_rfl) (by kernel_rfl) (by kernel_rfl) (by kernel_rfl) (fun _ _ _ h => h) (Or.inr ⟨by rfl, rfl⟩) (hS1) ?_
            try simp only [Act.put, List.setIfInBounds_toArray, List.set_cons_zero, List.set_cons_succ, List.getElem_toArray, List.getElem_cons_succ, List.getElem_cons_zero]
            refine wpAnyT_take (i := 11) (v := undef) rfl (by kernel_rfl) (by kernel_rfl) (by kernel_rfl) (by kernel_rfl) (by kernel_rfl) (fun _ _ _ h => h) (Or.inr ⟨by rfl, rfl⟩) (hS1) ?_
            try simp only [Act.put, List.setIfInBounds_toArray, List.set_cons_zero, List.set_cons_succ, List.getElem_toArray, List.getElem_cons_succ, List.getElem_cons_zero]
            refine wpAnyT_take (i := 12) (v := undef) rfl (by kernel_rfl) (by kernel_rfl) (by kernel_rfl) (by kernel_rfl) (by kernel_rfl) (fun _ _ _ h => h) (Or.inr ⟨by rfl, rfl⟩) (hS1) ?_
            try simp only [Act.put, List.setIfInBounds_toArray, List.set_cons_zero, List.set_cons_succ, List.getElem_toArray, List.getElem_cons_succ, List.getElem_cons_zero]
            refine wpAnyT_take (i := 13) (v := undef) rfl (by kernel_rfl) (by kernel_rfl) (by kernel_rfl) (by kernel_rfl) (by kernel_rfl) (fun _ _ _ h => h) (Or.inr ⟨by rfl, rfl⟩) (hS1) ?_
            try simp only [Act.put, List.setIfInBounds_toArray, List.set_cons_zero, List.set_cons_succ, List.getElem_toArray, List.getElem_cons_succ, List.getElem_cons_zero]
            refine wpAnyT_take (i := 14) (v := undef) rfl (by kernel_rfl) (by kernel_rfl) (by kernel_rfl) (by kernel_rfl) (by kernel_rfl) (fun _ _ _ h => h) (Or.inr ⟨by rfl, rfl⟩) (hS1) ?_
            try simp only [Act.put, List.setIfInBounds_toArray, List.set_cons_zero, List.set_cons_succ, List.getElem_toArray, List.getElem_cons_succ, List.getElem_cons_zero]
            refine wpAnyT_take (i := 15) (v := undef) rfl (by kernel_rfl) (by kernel_rfl) (by kernel_rfl) (by kernel_rfl) (by kernel_rfl) (fun _ _ _ h => h) (Or.inr ⟨by rfl, rfl⟩) (hS1) ?_
            try simp only [Act.put, List.setIfInBounds_toArray, List.set_cons_zero, List.set_cons_succ, List.getElem_toArray, List.getElem_cons_succ, List.getElem_cons_zero]
            refine wpAnyT_take (i := 16) (v := undef) rfl (by kernel_rfl) (by kernel_rfl) (by kernel_rfl) (by kernel_rfl) (by kernel_rfl) (fun _ _ _ h => h) (Or.inr ⟨by rfl, rfl⟩) (hS1) ?_
            try simp only [Act.put, List.setIfInBounds_toArray, List.set_cons_zero, List.set_cons_succ, List.getElem_toArray, List.getElem_cons_succ, List.getElem_cons_zero]
            refine wpAnyT_take (i := 17) (v := undef) rfl (by kernel_rfl) (by kernel_rfl) (by kernel_rfl) (by kernel_rfl) (by kernel_rfl) (fun _ _ _ h => h) (Or.inr ⟨by rfl, rfl⟩) (hS1) ?_
            try simp only [Act.put, List.setIfInBounds_toArray, List.set_cons_zero, List.set_cons_succ, List.getElem_toArray, List.getElem_cons_succ, List.getElem_cons_zero]
            refine wpAnyT_take (i := 18) (v := undef) rfl (by kernel_rfl) (by kernel_rfl) (by kernel_rfl) (by kernel_rfl) (by kernel_rfl) (fun _ _ _ h => h) (Or.inr ⟨by rfl, rfl⟩) (hS1) ?_
            try simp only [Act.put, List.setIfInBounds_toArray, List.set_cons_zero, List.set_cons_succ, List.getElem_toArray, List.getElem_cons_succ, List.getElem_cons_zero]
            refine wpAnyT_take (i := 19) (v := ?va19) rfl (by kernel_rfl) (by kernel_rfl) (by kernel_rfl) (by kernel_rfl) (by kernel_rfl) (fun _ _ _ h => h) (Or.inl ⟨by rfl, ?ya19⟩) (hS1) ?ra19
            case ya19 => (intro w hSw; (try dsimp only at hSw); go_simp; try with_reducible rfl)
            try simp only [Act.put, List.setIfInBounds_toArray, List.set_cons_zero, List.set_cons_succ, List.getElem_toArray, List.getElem_cons_succ, List.getElem_cons_zero]
            refine wpAnyT_done (by kernel_rfl) ?_ _
            all_goals
              have hz := HBAD.out (by simp)
              have HZ1 := Lib.hid (congrArg Prod.fst hz)
              have HZ2 := Lib.hid (congrArg Prod.snd hz)
              have HFI := Lib.hid (HBR.out.trans (hBZ.mono HBR.out.size))
              clear hz
              go_wp2_with fail
              go_ret2
              exact ⟨by rw [HZ1.out, HZ2.out] <;> rfl, HFI.out⟩
          | true =>
            go_wp2_with fail
            refine wp_region_T (fun W : World => W.cell? ⟨b, off + k * 4 + 1, none⟩ = some (.int .i64 fk) ∧ W.cell? ⟨b, off + k * 4 + 2, none⟩ = some (.int .i64 fo) ∧ W.cell? ⟨w.heap.size, 1, none⟩ = some (.slice (some ⟨b, off, none⟩) fs.length c) ∧ W.cell? ⟨b', off' + k * 4, none⟩ = some (.int .i64 yk) ∧ W.cell? ⟨b', off' + k * 4 + 1, none⟩ = some (.int .i64 yn) ∧ W.cell? ⟨b', off' + k * 4 + 2, none⟩ = some (.string yz) ∧ W.cell? ⟨b', off' + k * 4 + 3, none⟩ = some (.slice yp ym yc)) (fun j => false) (by kernel_rfl) ?_
            refine wpAnyT_take (i := 0) (v := ?vb0) rfl (by kernel_rfl) (by kernel_rfl) (by kernel_rfl) (by kernel_rfl) (by kernel_rfl) (fun _ _ _ h => h) (Or.inl ⟨by rfl, ?yb0⟩) (hS0) ?rb0
            case yb0 => (intro w hSw; (try dsimp only at hSw); go_simp; try with_reducible rfl)
            try simp only [Act.put, List.setIfInBounds_toArray, List.set_cons_zero, List.set_cons_succ, List.getElem_toArray, List.getElem_cons_succ, List.getElem_cons_zero]
            refine wpAnyT_take (i := 1) (v := ?vb1) rfl (by kernel_rfl) (by kernel_rfl) (by kernel_rfl) (by kernel_rfl) (by kernel_rfl) (fun _ _ _ h => h) (Or.inl ⟨by rfl, ?yb1⟩) (hS0) ?rb1
            case yb1 => (intro w hSw; (try dsimp only at hSw); go_simp; try with_reducible rfl)
            try simp only [Act.put, List.setIfInBounds_toArray, List.set_cons_zero, List.set_cons_succ, List.getElem_toArray, List.getElem_cons_succ, List.getElem_cons_zero]
            refine wpAnyT_take (i := 2) (v := ?vb2) rfl (by kernel_rfl) (by kernel_rfl) (by kernel_rfl) (by kernel_rfl) (by kernel_rfl) (fun _ _ _ h => h) (Or.inl ⟨by rfl, ?yb2⟩) (hS0) ?rb2
            case yb2 => (intro w hSw; (try dsimp only at hSw); go_simp; try with_reducible rfl)
            try simp only [Act.put, List.setIfInBounds_toArray, List.set_cons_zero, List.set_cons_succ, List.getElem_toArray, List.getElem_cons_succ, List.getElem_cons_zero]
            refine wpAnyT_take (i := 3) (v := ?vb3) rfl (by kernel_rfl) (by kernel_rfl) (by kernel_rfl) (by kernel_rfl) (by kernel_rfl) (fun _ _ _ h => h) (Or.inl ⟨by rfl, ?yb3⟩) (hS0) ?rb3
            case yb3 => (intro w hSw; (try dsimp only at hSw); go_simp; try with_reducible rfl)
            try simp only [Act.put, List.setIfInBounds_toArray, List.set_cons_zero, List.set_cons_succ, List.getElem_toArray, List.getElem_cons_succ, List.getElem_cons_zero]
            refine wpAnyT_run (i := 4) (by kernel_rfl) rfl (fun K hK => ?_)
            go_simp
            (refine (HRIG2.out _ HD0.out).mono ?_; rintro e Y1 ⟨rfl, hBY⟩)
            have hBZ := HD0.out.trans (hBY.mono HD0.out.size)
            have hS1 := HSW.out _ hBZ
            go_wp2_with fail
            refine hK.out _ _ (fun _ => hS1) ?_
            clear hK K
            try simp only [Act.put, List.setIfInBounds_toArray, List.set_cons_zero, List.set_cons_succ, List.getElem_toArray, List.getElem_cons_succ, List.getElem_cons_zero]
            refine wpAnyT_take (i := 5) (v := ?vb5) rfl (by kernel_rfl) (by kernel_rfl) (by kernel_rfl) (by kernel_rfl) (by kernel_rfl) (fun _ _ _ h => h) (Or.inl ⟨by rfl, ?yb5⟩) (hS1) ?rb5
            case yb5 => (intro w hSw; (try dsimp only at hSw); go_simp; try with_reducible rfl)
            try simp only [Act.put, List.setIfInBounds_toArray, List.set_cons_zero, List.set_cons_succ, List.getElem_toArray, List.getElem_cons_succ, List.getElem_cons_zero]
            refine wpAnyT_take (i := 6) (v := ?vb6) rfl (by kernel_rfl) (by kernel_rfl) (by kernel_rfl) (by kernel_rfl) (by kernel_rfl) (fun _ _ _ h => h) (Or.inl ⟨by rfl, ?yb6⟩) (hS1) ?rb6
            case yb6 => (intro w hSw; (try dsimp only at hSw); go_simp; try with_reducible rfl)
            try simp only [Act.put, List.setIfInBounds_toArray, List.set_cons_zero, List.set_cons_succ, List.getElem_toArray, List.getElem_cons_succ, List.getElem_cons_zero]
            refine wpAnyT_take (i := 7) (v := ?vb7) rfl (by kernel_rfl) (by kernel_rfl) (by kernel_rfl) (by kernel_rfl) (by kernel_rfl) (fun _ _ _ h => h) (Or.inl ⟨by rfl, ?yb7⟩) (hS1) ?rb7
            case yb7 => (intro w hSw; (try dsimp only at hSw); go_simp; try with_reducible rfl)
            try simp only [Act.put, List.setIfInBounds_toArray, List.set_cons_zero, List.set_cons_succ, List.getElem_toArray, List.getElem_cons_succ, List.getElem_cons_zero]
            refine wpAnyT_take (i := 8) (v := ?vb8) rfl (by kernel_rfl) (by kernel_rfl) (by kernel_rfl) (by kernel_rfl) (by kernel_rfl) (fun _ _ _ h => h) (Or.inl ⟨by rfl, ?yb8⟩) (hS1) ?rb8
            case yb8 => (intro w hSw; (try dsimp only at hSw); go_simp; try with_reducible rfl)
            try simp only [Act.put, List.setIfInBounds_toArray, List.set_cons_zero, List.set_cons_succ, List.getElem_toArray, List.getElem_cons_succ, List.getElem_cons_zero]
            refine wpAnyT_take (i := 9) (v := ?vb9) rfl (by kernel_rfl) (by kernel_rfl) (by kernel_rfl) (by kernel_rfl) (by kernel_rfl) (fun _ _ _ h => h) (Or.inl ⟨by rfl, ?yb9⟩) (hS1) ?rb9
            case yb9 => (intro w hSw; (try dsimp only at hSw); go_simp; try with_reducible rfl)
            try simp only [Act.put, List.setIfInBounds_toArray, List.set_cons_zero, List.set_cons_succ, List.getElem_toArray, List.getElem_cons_succ, List.getElem_cons_zero]
            refine wpAnyT_take (i := 10) (v := ?vb10) rfl (by kernel_rfl) (by kernel_rfl) (by kernel_rfl) (by kernel_rfl) (by kernel_rfl) (fun _ _ _ h => h) (Or.inl ⟨by rfl, ?yb10⟩) (hS1) ?rb10
            case yb10 => (intro w hSw; (try dsimp only at hSw); go_simp; try with_reducible rfl)
            try simp only [Act.put, List.setIfInBounds_toArray, List.set_cons_zero, List.set_cons_succ, List.getElem_toArray, List.getElem_cons_succ, List.getElem_cons_zero]
            refine wpAnyT_take (i := 11) (v := ?vb11) rfl (by kernel_rfl) (by kernel_rfl) (by kernel_rfl) (by kernel_rfl) (by kernel_rfl) (fun _ _ _ h => h) (Or.inl ⟨by rfl, ?yb11⟩) (hS1) ?rb11
            case yb11 => (intro w hSw; (try dsimp only at hSw); go_simp; try with_reducible rfl)
            try simp only [Act.put, List.setIfInBounds_toArray, List.set_cons_zero, List.set_cons_succ, List.getElem_toArray, List.getElem_cons_succ, List.getElem_cons_zero]
            refine wpAnyT_take (i := 12) (v := ?vb12) rfl (by kernel_rfl) (by kernel_rfl) (by kernel_rfl) (by kernel_rfl) (by kernel_rfl) (fun _ _ _ h => h) (Or.inl ⟨by rfl, ?yb12⟩) (hS1) ?rb12
            case yb12 => (intro w hSw; (try dsimp only at hSw); go_simp; try with_reducible rfl)
            try simp only [Act.put, List.setIfInBounds_toArray, List.set_cons_zero, List.set_cons_succ, List.getElem_toArray, List.getElem_cons_succ, List.getElem_cons_zero]
            refine wpAnyT_take (i := 13) (v := ?vb13) rfl (by kernel_rfl) (by kernel_rfl) (by kernel_rfl) (by kernel_rfl) (by kernel_rfl) (fun _ _ _ h => h) (Or.inl ⟨by rfl, ?yb13⟩) (hS1) ?rb13
            case yb13 => (intro w hSw; (try dsimp only at hSw); go_simp; try with_reducible rfl)
            try simp only [Act.put, List.setIfInBounds_toArray, List.set_cons_zero, List.set_cons_succ, List.getElem_toArray, List.getElem_cons_succ, List.getElem_cons_zero]
            refine wpAnyT_take (i := 14) (v := ?vb14) rfl (by kernel_rfl) (by kernel_rfl) (by kernel_rfl) (by kernel_rfl) (by kernel_rfl) (fun _ _ _ h => h) (Or.inl ⟨by rfl, ?yb14⟩) (hS1) ?rb14
            case yb14 => (intro w hSw; (try dsimp only at hSw); go_simp; try with_reducible rfl)
            try simp only [Act.put, List.setIfInBounds_toArray, List.set_cons_zero, List.set_cons_succ, List.getElem_toArray, List.getElem_cons_succ, List.getElem_cons_zero]
            refine wpAnyT_take (i := 15) (v := ?vb15) rfl (by kernel_rfl) (by kernel_rfl) (by kernel_rfl) (by kernel_rfl) (by kernel_rfl) (fun _ _ _ h => h) (Or.inl ⟨by rfl, ?yb15⟩) (hS1) ?rb15
            case yb15 => (intro w hSw; (try dsimp only at hSw); go_simp; try with_reducible rfl)
            try simp only [Act.put, List.setIfInBounds_toArray, List.set_cons_zero, List.set_cons_succ, List.getElem_toArray, List.getElem_cons_succ, List.getElem_cons_zero]
            refine wpAnyT_take (i := 16) (v := ?vb16) rfl (by kernel_rfl) (by kernel_rfl) (by kernel_rfl) (by kernel_rfl) (by kernel_rfl) (fun _ _ _ h => h) (Or.inl ⟨by rfl, ?yb16⟩) (hS1) ?rb16
            case yb16 => (intro w hSw; (try dsimp only at hSw); go_simp; try with_reducible rfl)
            try simp only [Act.put, List.setIfInBounds_toArray, List.set_cons_zero, List.set_cons_succ, List.getElem_toArray, List.getElem_cons_succ, List.getElem_cons_zero]
            refine wpAnyT_run (i := 17) (by kernel_rfl) rfl (fun K hK => ?_)
            go_simp
            (refine (HFIT2.out _ hBZ).mono ?_; rintro e Y2 ⟨rfl, hBY2⟩)
            have hBZ2 := hBZ.trans (hBY2.mono hBZ.size)
            have hS2 := HSW.out _ hBZ2
            go_wp2_with fail
            refine hK.out _ _ (fun _ => hS2) ?_
            clear hK K
            try simp only [Act.put, List.setIfInBounds_toArray, List.set_cons_zero, List.set_cons_succ, List.getElem_toArray, List.getElem_cons_succ, List.getElem_cons_zero]
            refine wpAnyT_take (i := 18) (v := ?vb18) rfl (by kernel_rfl) (by kernel_rfl) (by kernel_rfl) (by kernel_rfl) (by kernel_rfl) (fun _ _ _ h => h) (Or.inl ⟨by rfl, ?yb18⟩) (hS2) ?rb18
            case yb18 => (intro w hSw; (try dsimp only at hSw); go_simp; try with_reducible rfl)
            try simp only [Act.put, List.setIfInBounds_toArray, List.set_cons_zero, List.set_cons_succ, List.getElem_toArray, List.getElem_cons_succ, List.getElem_cons_zero]
            refine wpAnyT_take (i := 19) (v := ?vb19) rfl (by kernel_rfl) (by kernel_rfl) (by kernel_rfl) (by kernel_rfl) (by kernel_rfl) (fun _ _ _ h => h) (Or.inl ⟨by rfl, ?yb19⟩) (hS2) ?rb19
            case yb19 => (intro w hSw; (try dsimp only at hSw); go_simp; try with_reducible rfl)
            try simp only [Act.put, List.setIfInBounds_toArray, List.set_cons_zero, List.set_cons_succ, List.getElem_toArray, List.getElem_cons_succ, List.getElem_cons_zero]
            refine wpAnyT_done (by kernel_rfl) ?_ _
            all_goals
              have HFI := Lib.hid (HBR.out.trans (hBZ2.mono HBR.out.size))
              have HCZ := Lib.hid (HCR.out.below hBZ2)
              cases ft with
              | true =>
                have hnx := HNX.out (by simp)
                have HN2 := Lib.hid hnx
                clear hnx
                go_wp2_with fail
                exact ⟨⟨k + 1, by omega, by go_num, HN2.out, HFI.out, HCZ.out⟩, by simp [intOf]; have := HN.out; omega⟩
              | false =>
                have hz := HBAD.out (by simp)
                have HZ1 := Lib.hid (congrArg Prod.fst hz)
                have HZ2 := Lib.hid (congrArg Prod.snd hz)
                clear hz
                go_wp2_with fail
                go_ret2
                exact ⟨by rw [HZ1.out, HZ2.out] <;> rfl, HFI.out⟩
        · obtain rfl : k = fs.length := by omega
          have e1 : decide ((fs.length : Int) < (ys.length : Int)) = false := decide_eq_false (by have := HN.out; omega)
          have e1' : ¬ (fs.length : Int) < (ys.length : Int) := by have := HN.out; omega
          have hz := HGOOD.out (by simp) (by rw [← HLEN.out]; exact HN.out) HE.out
          have HZ1 := Lib.hid (congrArg Prod.fst hz)
          have HZ2 := Lib.hid (congrArg Prod.snd hz)
          clear hz
          go_wp2_with fail
          go_ret2
          exact ⟨by rw [HZ1.out, HZ2.out] <;> rfl, hB⟩
    · have n1 : ((ys.length : Int) != (fs.length : Int)) = true := by rw [bne_iff_ne]; omega
      have hz := HBAD2.out (by simp) (by rw [← HLEN.out]; exact hn)
      rw [← HLEN.out] at hz
      have HZ1 := Lib.hid (congrArg Prod.fst hz)
      have HZ2 := Lib.hid (congrArg Prod.snd hz)
      clear hz
      go_wp2_with fail
      go_ret2
      exact ⟨by rw [HZ1.out, HZ2.out] <;> rfl, HBW.out⟩
end Go.Proofs.YtffoklhopmhjaaaDoor

/- Values without items, wherever. -/
set_option linter.unusedSimpArgs false
set_option linter.unusedVariables false
namespace Go.Proofs.YtffoklhopmhjaaaDoor
open Go Go.RowKit Go.Shelf

/-- a value without items, wherever -/
def FlatAt (u : V) (y : It) : Prop := u.fine ∧ y.k = u.k ∧ y.n = u.n ∧ y.s = u.s ∧ u.l = [] ∧ y.m = 0
theorem FlatAt.at {u : V} {y : It} (h : FlatAt u y) (d : Nat) (W : World) : VAt d W u y := by
  obtain ⟨h0, h1, h2, h3, h4, h5⟩ := h
  obtain ⟨k, n, s, p, m, c⟩ := y
  simp only at h1 h2 h3 h5
  subst h5
  have ht : ∀ J, VTop W u ⟨k, n, s, p, 0, c⟩ J := fun J => ⟨h0, h1, h2, h3, [], by rw [h4]; rfl, ⟨rfl, .inl ⟨rfl, p, c, rfl⟩⟩, fun i h => absurd h (by simp)⟩
  cases d with
  | zero => exact ht _
  | succ d => exact ht _
theorem FlatAt.of {W : World} {u : V} {y : It} (h : VAt 0 W u y) : FlatAt u y := by
  have hlen := h.top.len
  obtain ⟨h0, h1, h2, h3, ys, h4, h5, h6⟩ := h
  have hl : u.l = [] := by
    cases hu : u.l with
    | nil => rfl
    | cons a r => exact absurd (h6 0 (by rw [h4, hu]; simp) (by rw [hu]; simp)) (fun h => h)
  exact ⟨h0, h1, h2, h3, hl, by rw [hlen, hl]; rfl⟩
theorem VAt.up : ∀ {d : Nat} {W : World} {v : V} {x : It}, VAt d W v x → VAt (d + 1) W v x
  | 0, W, v, x, h => (FlatAt.of h).at 1 W
  | d + 1, W, v, x, h => by
    obtain ⟨h0, h1, h2, h3, ys, h4, h5, h6⟩ := h
    exact ⟨h0, h1, h2, h3, ys, h4, h5, fun i a b => (h6 i a b).up⟩
theorem VAt.edit {d : Nat} {W : World} {v : V} {x : It} (h : VAt d W v x) (k n : Int) (s : ByteArray) (hk : -9223372036854775808 ≤ k ∧ k ≤ 9223372036854775807) (hn : -9223372036854775808 ≤ n ∧ n ≤ 9223372036854775807) (hs : s.size ≤ 9223372036854775807) :
    VAt d W (.mk k n s v.l) ⟨k, n, s, x.p, x.m, x.c⟩ := by
  have hf := h.top.1
  cases d with
  | zero => obtain ⟨h0, h1, h2, h3, ys, h4, h5, h6⟩ := h; exact ⟨⟨hk, hn, hs, hf.l⟩, rfl, rfl, rfl, ys, h4, h5, h6⟩
  | succ d => obtain ⟨h0, h1, h2, h3, ys, h4, h5, h6⟩ := h; exact ⟨⟨hk, hn, hs, hf.l⟩, rfl, rfl, rfl, ys, h4, h5, h6⟩
end Go.Proofs.YtffoklhopmhjaaaDoor

/- morainelaw04.ValsOf. -/
set_option linter.unusedSimpArgs false
set_option linter.unusedVariables false
namespace Go.Proofs.YtffoklhopmhjaaaDoor
open Go Go.RowKit Go.Shelf

theorem vat_grown {W W' : World} {u : V} {y : It} {r : Option Nat} (h : VAt 1 W u y) (hg : W.grownBy W' r) (hne : ∀ a, y.p = some a → r ≠ some a.block) : VAt 1 W' u y := by
  obtain ⟨h0, h1, h2, h3, ys, h4, h5, h6⟩ := h
  refine ⟨h0, h1, h2, h3, ys, h4, ?_, fun i a b => (FlatAt.of (h6 i a b)).at 0 W'⟩
  obtain ⟨e1, e2 | ⟨b, off, c', hv, hb, hc⟩⟩ := h5
  · exact ⟨e1, .inl e2⟩
  · refine ⟨e1, .inr ⟨b, off, c', hv, Nat.lt_of_lt_of_le hb hg.size, fun j u hu => ?_⟩⟩
    injection hv with k1 _ _
    rw [hg.cell_far ⟨b, off + j, none⟩ hb (fun e => hne _ k1 e.symm)]
    exact hc j u hu
/-- values in a row of one's own, their items elsewhere -/
def VRow (base : Nat) (W : World) (vs : List V) (v : Value) : Prop :=
  ∃ ys : List It, ys.length = vs.length ∧ W.ownsRow base 31 4 v ys.length (itsCells ys) ∧ (∀ (i : Nat) (h : i < ys.length) (h' : i < vs.length), VAt 1 W vs[i] ys[i]) ∧ ∀ y ∈ ys, ∀ a, y.p = some a → v.ownBlock ≠ some a.block ∧ a.block < W.heap.size ∧ base ≤ a.block
theorem VRow.nil (base : Nat) (W : World) : VRow base W [] (.slice none 0 0) := ⟨[], rfl, World.ownsRow_nil _ _ _ _, fun i h => absurd h (by simp), fun y hy => by cases hy⟩
theorem VRow.go {base : Nat} {W W' : World} {vs : List V} {v : Value} (h : VRow base W vs v) (hb : Below W.heap.size W W') : VRow base W' vs v := by
  obtain ⟨ys, h1, h2, h3, h4⟩ := h
  exact ⟨ys, h1, owned_below h2 hb, fun i a b => (h3 i a b).below hb, fun y hy a ha => ⟨(h4 y hy a ha).1, Nat.lt_of_lt_of_le (h4 y hy a ha).2.1 hb.size, (h4 y hy a ha).2.2⟩⟩
theorem VRow.at {base : Nat} {W : World} {vs : List V} {vp : Option Addr} {n c : Nat} (h : VRow base W vs (.slice vp n c)) (hn : n = vs.length) : VsAt 1 W vs vp n c := by
  obtain ⟨ys, h1, h2, h3, h4⟩ := h
  obtain rfl : n = ys.length := by omega
  exact ⟨ys, rfl, h1, Lies.own h2, h3⟩
theorem VRow.cap {base : Nat} {W : World} {vs : List V} {vp : Option Addr} {n c : Nat} (h : VRow base W vs (.slice vp n c)) (hn : n = vs.length) : n ≤ c ∧ c ≤ maxLen := by
  obtain ⟨ys, h1, h2, h3, h4⟩ := h
  rcases h2.2 with ⟨hv, h0⟩ | ⟨g, cap, cur, hv, _, _, hnc, hcm, _⟩
  · injection hv with _ e1 e2
    subst e1 e2
    exact ⟨Nat.le_refl _, Nat.zero_le _⟩
  · injection hv with _ e1 e2
    subst e2
    omega
/-- numbers that lie -/
structure ILies (W : World) (p : Option Addr) (c : Nat) (l : List Int) : Prop where
  lies : Lies W (.slice p l.length c) l.length 1 (l.map (Value.int .i64))
  rng : ∀ x ∈ l, -9223372036854775808 ≤ x ∧ x ≤ 9223372036854775807
theorem ILies.below {W W' : World} {p : Option Addr} {c : Nat} {l : List Int} (h : ILies W p c l) (hb : Below W.heap.size W W') : ILies W' p c l := ⟨h.lies.below hb, h.rng⟩
theorem ILies.cell {W : World} {p : Option Addr} {c : Nat} {l : List Int} (h : ILies W p c l) (k : Nat) (hk : k < l.length) : ∃ b off, p = some ⟨b, off, none⟩ ∧ b < W.heap.size ∧ W.cell? ⟨b, off + k, none⟩ = some (.int .i64 (l.getD k 0)) := by
  obtain ⟨b, off, e, hb, hc⟩ := h.lies.at (by omega)
  refine ⟨b, off, e, hb, hc k _ ?_⟩
  rw [List.getElem?_map, List.getElem?_eq_getElem hk, List.getD_eq_getElem?_getD, List.getElem?_eq_getElem hk]; rfl
theorem numAt_rng (l : List Int) (i : Nat) (hi : i ≤ 9223372036854775807) : -9223372036854775808 ≤ numAt l i ∧ numAt l i ≤ 9223372036854775807 := by
  unfold numAt
  split
  · omega
  · rw [IntKind.wrap_i64]; omega
def valsOf4Post (fs : List Fl) (l : List Int) (many : Int) (w : World) (e : Ending) (w' : World) : Prop :=
  ∃ (p : Option Addr) (c : Nat), e = .returned (.slice p fs.length c) ∧ VsAt 1 w' (vsTo fs l many fs.length) p fs.length c ∧ Below w.heap.size w w'
/-- what ValsOf answers, and how much room there is -/
def valsOf4Cap (fs : List Fl) (l : List Int) (many : Int) (w : World) (e : Ending) (w' : World) : Prop :=
  ∃ (p : Option Addr) (c : Nat) (ys : List It), e = .returned (.slice p fs.length c) ∧ ys.length = fs.length ∧ Lies w' (.slice p fs.length c) fs.length 4 (itsCells ys) ∧ (∀ (i : Nat) (h : i < ys.length) (h' : i < (vsTo fs l many fs.length).length), VAt 1 w' (vsTo fs l many fs.length)[i] ys[i]) ∧ Below w.heap.size w w' ∧ (fs.length ≤ c ∧ c ≤ maxLen) ∧ (∀ a, p = some a → w.heap.size < a.block) ∧ ∀ y ∈ ys, ∀ a, y.p = some a → w.heap.size < a.block

set_option maxHeartbeats 8000000 in
set_option maxRecDepth 100000 in
theorem valsOf4_cap (nm : ByteArray) (q : Option Addr) (c : Nat) (fs : List Fl) (hf : fs.length ≤ 8) (hok : ∀ (i : Nat) (h : i < fs.length), rtB fs[i].k fs[i].o = true) (l : List Int) (lp : Option Addr) (lc : Nat) (hll : l.length ≤ 9223372036854775807) (many : Int) (hm : 1 ≤ many ∧ many ≤ 1000) (w : World) (hF : FLies w q fs.length c fs) (hI : ILies w lp lc l) :
    Calls Tryd.prog 9 #[clV nm q fs.length c, .slice lp l.length lc, .int .i64 many] w (valsOf4Cap fs l many w) := by
  obtain ⟨i0, hi, hz0, hz1, hz2⟩ := info_parts infoVal4
  have hal : Below w.heap.size w (w.alloc (.cells #[.string nm, .slice q fs.length c] 27)) := (Below.refl _ _).alloc (Nat.le_refl _) _
  have hC := CBox.new w nm q fs.length c
  have hof : ∀ (i : Nat) (h : i < fs.length) W, Calls Tryd.prog 23 #[.agg #[.int .i64 fs[i].k, .int .i64 fs[i].o], .int .i64 (numAt l i), .int .i64 many] W (valOf4Post fs[i].k fs[i].o (numAt l i) many W) := fun i h W =>
    valOf4_any _ _ _ _ (hok i h) (numAt_rng l i (by omega)) hm W
  have hsucc := fun i h => vsTo_succ fs l many i h
  have hlen := vsTo_len fs l many
  have HOFV := Lib.hid hof
  have HSUCC := Lib.hid hsucc
  have HLEN := Lib.hid hlen
  have HF := Lib.hid hF
  have HI := Lib.hid hI
  have HAL := Lib.hid hal
  have HC := Lib.hid hC
  clear hof hsucc hlen hF hI hal hC hok hm
  unfold valsOf4Cap
  go_enter Tryd.func9, Tryd.ntmps9
  go_wp2_with fail
  generalize w.alloc (.cells #[.string nm, .slice q fs.length c] 27) = U at HAL HC ⊢
  go_loopw [7, 8] (fun v s wr => ∃ (i : Nat) (vp : Option Addr) (vc : Nat), i ≤ fs.length ∧ s = .int .i64 (i : Int) ∧ v = .slice vp i vc ∧ CBox wr w.heap.size nm q fs.length c ∧ VRow (w.heap.size + 1) wr (vsTo fs l many i) (.slice vp i vc) ∧ Below w.heap.size w wr) (fun v s _ => fs.length - (intOf s).toNat)
  case atStart => exact ⟨0, none, 0, by omega, rfl, rfl, HC.out, VRow.nil _ _, HAL.out⟩
  case round =>
    obtain ⟨i, vp, vc, hil, rfl, rfl, hCr, hrow, hB⟩ := hrel
    clear HAL HC
    obtain ⟨c0, c1⟩ := hCr.facts
    have hzw := hCr.lt
    have HCR := Lib.hid hCr
    have HROW := Lib.hid hrow
    have HB := Lib.hid hB
    clear hCr hrow hB
    by_cases hlt : i < fs.length
    · have d1 : decide ((i : Int) < (fs.length : Int)) = true := decide_eq_true (by omega)
      have d1' : (i : Int) < (fs.length : Int) := by omega
      have d0 : (0 : Int) ≤ (i : Int) := by omega
      obtain ⟨b, off, rfl, hb, hc⟩ := HF.out.2.at (by omega)
      have hcx : ∀ (j : Nat) (u : Value), ((fs[i]'hlt).cells)[j]? = some u → wr.cell? ⟨b, off + i * 4 + j, none⟩ = some u := fun j u hu => by
        rw [HB.out.cell (p := ⟨b, off + i * 4 + j, none⟩) hb, Nat.add_assoc]
        exact hc _ _ (flCells_at fs i hlt j u hu)
      have hcall := HOFV.out i hlt
      unfold valOf4Post at hcall
      have hsucc := HSUCC.out i hlt
      have hnum : numAt l i = if l.length = 0 then (i : Int) else IntKind.i64.wrap (l.getD (i % l.length) 0 + (i : Int)) := rfl
      generalize numAt l i = na at hcall hsucc hnum
      generalize fs[i]'hlt = f at hcx hcall hsucc
      obtain ⟨fn, fk, fo, fx⟩ := f
      simp only at hcall hsucc
      have z1 : wr.cell? ⟨b, off + i * 4 + 1, none⟩ = some (.int .i64 fk) := hcx 1 _ rfl
      have z2 : wr.cell? ⟨b, off + i * 4 + 2, none⟩ = some (.int .i64 fo) := hcx 2 _ rfl
      have HCALL := Lib.hid hcall
      have HSU := Lib.hid hsucc
      clear hcx hc hcall hsucc
      by_cases hl0 : l.length = 0
      · obtain rfl : na = (i : Int) := hnum.trans (if_pos hl0)
        have dl : decide ((l.length : Int) > 0) = false := decide_eq_false (by omega)
        have dl' : ¬ (0 : Int) < (l.length : Int) := by omega
        clear hl0 hnum
        go_wp2_with fail
        refine (HCALL.out _).mono ?_
        rintro e W1 ⟨y, rfl, hat, hBc, hpa⟩
        obtain ⟨yk, yn, ys, yp, ym, yc⟩ := y
        have hB1 := HB.out.trans (hBc.mono HB.out.size)
        have hC1 := HCR.out.below hBc
        have hal1 := (Below.refl W1.heap.size W1).alloc (Nat.le_refl _) (.cells #[.int .i64 yk, .int .i64 yn, .string ys, .slice yp ym yc] 31)
        have howd : ∀ ws : List It, ws.length = (vsTo fs l many i).length → W1.ownsRow (w.heap.size + 1) 31 4 (.slice vp i vc) ws.length (itsCells ws) → (W1.alloc (.cells #[.int .i64 yk, .int .i64 yn, .string ys, .slice yp ym yc] 31)).ownsRow (w.heap.size + 1) 31 4 (.slice vp i vc) ws.length (itsCells ws) := fun ws _ h => h.alloc _
        obtain ⟨ws, k1, k2, k3, k4⟩ := HROW.out.go hBc
        have k5 := howd ws k1 k2
        have k6 : ws.length = i := by rw [k1, HLEN.out]
        rw [k6] at k5
        have hlt1 := hC1.lt
        have hnext : ∀ gg cap w2, w2.ownsRow (w.heap.size + 1) 31 4 (.slice (some ⟨gg, 0, none⟩) (i + 1) cap) (i + 1) (itsCells ws ++ [.int .i64 yk, .int .i64 yn, .string ys, .slice yp ym yc]) → (W1.alloc (.cells #[.int .i64 yk, .int .i64 yn, .string ys, .slice yp ym yc] 31)).grownBy w2 (Value.slice vp i vc).ownBlock → ((Value.slice vp i vc).ownBlock = some gg ∨ gg = W1.heap.size + 1) → CBox w2 w.heap.size nm (some ⟨b, off, none⟩) fs.length c ∧ VRow (w.heap.size + 1) w2 (vsTo fs l many (i + 1)) (.slice (some ⟨gg, 0, none⟩) (i + 1) cap) ∧ Below w.heap.size w w2 := fun gg cap w2 hown hg hgg => by
          have hgo : ∀ g, (Value.slice vp i vc).ownBlock = some g → w.heap.size + 1 ≤ g := fun g hg' => (k5.lt g hg').1
          refine ⟨(hC1.below hal1).grown hg (fun e => by have := hgo _ e.symm; omega), ?_, (hB1.trans (hal1.mono hB1.size)).grown hg (by have := hB1.size; simp; omega) (fun g hg' => by have := hgo g hg'; omega)⟩
          rw [HSU.out]
          have hrow : VRow (w.heap.size + 1) wr (vsTo fs l many i) (.slice vp i vc) := HROW.out
          refine ⟨ws ++ [⟨yk, yn, ys, yp, ym, yc⟩], by simp [k1], by rw [its_app, List.length_append, k6]; exact hown, ?_, ?_⟩
          · intro j a b'
            have hap : ∀ z ∈ ws ++ [(⟨yk, yn, ys, yp, ym, yc⟩ : It)], ∀ a', z.p = some a' → (Value.slice vp i vc).ownBlock ≠ some a'.block := fun z hz a' ha' => by
              rcases List.mem_append.1 hz with hz | hz
              · exact (k4 z hz a' ha').1
              · rw [List.mem_singleton.1 hz] at ha'
                intro e
                have h1 := (hpa a' ha').1
                obtain ⟨zs, m1, m2, _, _⟩ := hrow
                have := (m2.lt _ e).2
                omega
            refine vat_grown (W := W1.alloc (.cells #[.int .i64 yk, .int .i64 yn, .string ys, .slice yp ym yc] 31)) ?_ hg (fun a' ha' => hap _ (List.getElem_mem a) a' ha')
            refine VAt.below ?_ hal1
            rcases Nat.lt_or_ge j ws.length with hl | hl
            · have e1 : (ws ++ [(⟨yk, yn, ys, yp, ym, yc⟩ : It)])[j] = ws[j] := List.getElem_append_left hl
              have e2 : (vsTo fs l many i ++ [vOf fk fo (i : Int) many])[j] = (vsTo fs l many i)[j]'(by omega) := List.getElem_append_left (by omega)
              rw [e1, e2]
              exact k3 j hl (by omega)
            · obtain rfl : j = ws.length := by simp at a; omega
              have e1 : (ws ++ [(⟨yk, yn, ys, yp, ym, yc⟩ : It)])[ws.length] = ⟨yk, yn, ys, yp, ym, yc⟩ := by simp
              have e2 : (vsTo fs l many i ++ [vOf fk fo (i : Int) many])[ws.length] = vOf fk fo (i : Int) many := by simp [k1]
              rw [e1, e2]
              exact hat
          · intro z hz a' ha'
            have hsz := hg.size
            rw [World.size_alloc] at hsz
            have hz2 : (Value.slice vp i vc).ownBlock ≠ some a'.block ∧ a'.block < W1.heap.size ∧ w.heap.size + 1 ≤ a'.block := by
              rcases List.mem_append.1 hz with hz | hz
              · exact k4 z hz a' ha'
              · rw [List.mem_singleton.1 hz] at ha'
                refine ⟨fun e => ?_, (hpa a' ha').2, by have := (hpa a' ha').1; omega⟩
                have h1 := (hpa a' ha').1
                obtain ⟨zs, m1, m2, _, _⟩ := hrow
                have := (m2.lt _ e).2
                omega
            refine ⟨fun e => ?_, by omega, hz2.2.2⟩
            rcases hgg with h | h
            · rw [h] at hz2; exact hz2.1 e
            · have e := Option.some.inj e
              simp only at e
              omega
        have HNEXT := Lib.hid hnext
        have K5 := Lib.hid k5
        have hwz : w.heap.size + 1 ≤ W1.heap.size := hlt1
        have hil8 : i + 1 ≤ 8 := by omega
        have hnone : fs.length - i > 0 := by omega
        clear hat hpa howd k1 k2 k3 k4 k5 hnext hal1 hC1 hB1 hBc HSU HCALL HCR HROW
        go_wp2_with (at_builtin; refine wpList_append_lies _ rfl _ _ _ rfl (w.heap.size + 1) 31 i0 _ 4 56 Tryd.underlying29 hi hz0 hz1 hz2 rfl (by omega) _ i _ rfl K5.out ⟨W1.heap.size, 0, none⟩ 1 1 [.int .i64 yk, .int .i64 yn, .string ys, .slice yp ym yc] rfl rfl (World.news_of_block (cs := #[.int .i64 yk, .int .i64 yn, .string ys, .slice yp ym yc]) (t := 31) (fr := (0, 0)) (World.alloc_heap_new W1 _)) (by simp [Value.oneCell']) (by omega) (by simp [maxLen] <;> omega) (by omega) (by simp <;> omega) (W1.heap.size + 1) (by simp) ?_; intro gg cap w2 hown1 hgrow hatg hlt2)
        exact ⟨⟨i + 1, some ⟨gg, 0, none⟩, cap, by omega, by go_num, rfl, HNEXT.out _ _ _ hown1 hgrow hatg⟩, by simp [intOf]; omega⟩
      · have hna := hnum.trans (if_neg hl0)
        have dl : decide ((l.length : Int) > 0) = true := decide_eq_true (by omega)
        have dl' : (0 : Int) < (l.length : Int) := by omega
        have dz : ((l.length : Int) == 0) = false := by rw [beq_eq_false_iff_ne]; omega
        obtain ⟨r, hr⟩ : ∃ r : Nat, i % l.length = r := ⟨_, rfl⟩
        have hrl : r < l.length := by rw [← hr]; exact Nat.mod_lt _ (by omega)
        have ht : ((i : Int)).tmod (l.length : Int) = (r : Int) := by rw [Int.tmod_eq_emod_of_nonneg (by omega), ← hr]; rfl
        have hwr : IntKind.i64.wrap (r : Int) = (r : Int) := IntWalk.i64_in _ (by omega)
        have r0 : (0 : Int) ≤ (r : Int) := by omega
        have r1 : (r : Int) < (l.length : Int) := by omega
        obtain ⟨lb, loff, rfl, hlb, hlc⟩ := HI.out.cell r hrl
        rw [hr] at hna
        generalize l.getD r 0 = lx at hlc hna
        have hlc2 : wr.cell? ⟨lb, loff + r, none⟩ = some (.int .i64 lx) := (HB.out.cell (p := ⟨lb, loff + r, none⟩) hlb).trans hlc
        have hna2 : IntKind.i64.wrap (lx + (i : Int)) = na := hna.symm
        clear hl0 hnum hlc hna hr
        go_wp2_with fail
        refine (HCALL.out _).mono ?_
        rintro e W1 ⟨y, rfl, hat, hBc, hpa⟩
        obtain ⟨yk, yn, ys, yp, ym, yc⟩ := y
        have hB1 := HB.out.trans (hBc.mono HB.out.size)
        have hC1 := HCR.out.below hBc
        have hal1 := (Below.refl W1.heap.size W1).alloc (Nat.le_refl _) (.cells #[.int .i64 yk, .int .i64 yn, .string ys, .slice yp ym yc] 31)
        have howd : ∀ ws : List It, ws.length = (vsTo fs l many i).length → W1.ownsRow (w.heap.size + 1) 31 4 (.slice vp i vc) ws.length (itsCells ws) → (W1.alloc (.cells #[.int .i64 yk, .int .i64 yn, .string ys, .slice yp ym yc] 31)).ownsRow (w.heap.size + 1) 31 4 (.slice vp i vc) ws.length (itsCells ws) := fun ws _ h => h.alloc _
        obtain ⟨ws, k1, k2, k3, k4⟩ := HROW.out.go hBc
        have k5 := howd ws k1 k2
        have k6 : ws.length = i := by rw [k1, HLEN.out]
        rw [k6] at k5
        have hlt1 := hC1.lt
        have hnext : ∀ gg cap w2, w2.ownsRow (w.heap.size + 1) 31 4 (.slice (some ⟨gg, 0, none⟩) (i + 1) cap) (i + 1) (itsCells ws ++ [.int .i64 yk, .int .i64 yn, .string ys, .slice yp ym yc]) → (W1.alloc (.cells #[.int .i64 yk, .int .i64 yn, .string ys, .slice yp ym yc] 31)).grownBy w2 (Value.slice vp i vc).ownBlock → ((Value.slice vp i vc).ownBlock = some gg ∨ gg = W1.heap.size + 1) → CBox w2 w.heap.size nm (some ⟨b, off, none⟩) fs.length c ∧ VRow (w.heap.size + 1) w2 (vsTo fs l many (i + 1)) (.slice (some ⟨gg, 0, none⟩) (i + 1) cap) ∧ Below w.heap.size w w2 := fun gg cap w2 hown hg hgg => by
          have hgo : ∀ g, (Value.slice vp i vc).ownBlock = some g → w.heap.size + 1 ≤ g := fun g hg' => (k5.lt g hg').1
          refine ⟨(hC1.below hal1).grown hg (fun e => by have := hgo _ e.symm; omega), ?_, (hB1.trans (hal1.mono hB1.size)).grown hg (by have := hB1.size; simp; omega) (fun g hg' => by have := hgo g hg'; omega)⟩
          rw [HSU.out]
          have hrow : VRow (w.heap.size + 1) wr (vsTo fs l many i) (.slice vp i vc) := HROW.out
          refine ⟨ws ++ [⟨yk, yn, ys, yp, ym, yc⟩], by simp [k1], by rw [its_app, List.length_append, k6]; exact hown, ?_, ?_⟩
          · intro j a b'
            have hap : ∀ z ∈ ws ++ [(⟨yk, yn, ys, yp, ym, yc⟩ : It)], ∀ a', z.p = some a' → (Value.slice vp i vc).ownBlock ≠ some a'.block := fun z hz a' ha' => by
              rcases List.mem_append.1 hz with hz | hz
              · exact (k4 z hz a' ha').1
              · rw [List.mem_singleton.1 hz] at ha'
                intro e
                have h1 := (hpa a' ha').1
                obtain ⟨zs, m1, m2, _, _⟩ := hrow
                have := (m2.lt _ e).2
                omega
            refine vat_grown (W := W1.alloc (.cells #[.int .i64 yk, .int .i64 yn, .string ys, .slice yp ym yc] 31)) ?_ hg (fun a' ha' => hap _ (List.getElem_mem a) a' ha')
            refine VAt.below ?_ hal1
            rcases Nat.lt_or_ge j ws.length with hl | hl
            · have e1 : (ws ++ [(⟨yk, yn, ys, yp, ym, yc⟩ : It)])[j] = ws[j] := List.getElem_append_left hl
              have e2 : (vsTo fs l many i ++ [vOf fk fo na many])[j] = (vsTo fs l many i)[j]'(by omega) := List.getElem_append_left (by omega)
              rw [e1, e2]
              exact k3 j hl (by omega)
            · obtain rfl : j = ws.length := by simp at a; omega
              have e1 : (ws ++ [(⟨yk, yn, ys, yp, ym, yc⟩ : It)])[ws.length] = ⟨yk, yn, ys, yp, ym, yc⟩ := by simp
              have e2 : (vsTo fs l many i ++ [vOf fk fo na many])[ws.length] = vOf fk fo na many := by simp [k1]
              rw [e1, e2]
              exact hat
          · intro z hz a' ha'
            have hsz := hg.size
            rw [World.size_alloc] at hsz
            have hz2 : (Value.slice vp i vc).ownBlock ≠ some a'.block ∧ a'.block < W1.heap.size ∧ w.heap.size + 1 ≤ a'.block := by
              rcases List.mem_append.1 hz with hz | hz
              · exact k4 z hz a' ha'
              · rw [List.mem_singleton.1 hz] at ha'
                refine ⟨fun e => ?_, (hpa a' ha').2, by have := (hpa a' ha').1; omega⟩
                have h1 := (hpa a' ha').1
                obtain ⟨zs, m1, m2, _, _⟩ := hrow
                have := (m2.lt _ e).2
                omega
            refine ⟨fun e => ?_, by omega, hz2.2.2⟩
            rcases hgg with h | h
            · rw [h] at hz2; exact hz2.1 e
            · have e := Option.some.inj e
              simp only at e
              omega
        have HNEXT := Lib.hid hnext
        have K5 := Lib.hid k5
        have hwz : w.heap.size + 1 ≤ W1.heap.size := hlt1
        have hil8 : i + 1 ≤ 8 := by omega
        have hnone : fs.length - i > 0 := by omega
        clear hat hpa howd k1 k2 k3 k4 k5 hnext hal1 hC1 hB1 hBc HSU HCALL HCR HROW
        go_wp2_with (at_builtin; refine wpList_append_lies _ rfl _ _ _ rfl (w.heap.size + 1) 31 i0 _ 4 56 Tryd.underlying29 hi hz0 hz1 hz2 rfl (by omega) _ i _ rfl K5.out ⟨W1.heap.size, 0, none⟩ 1 1 [.int .i64 yk, .int .i64 yn, .string ys, .slice yp ym yc] rfl rfl (World.news_of_block (cs := #[.int .i64 yk, .int .i64 yn, .string ys, .slice yp ym yc]) (t := 31) (fr := (0, 0)) (World.alloc_heap_new W1 _)) (by simp [Value.oneCell']) (by omega) (by simp [maxLen] <;> omega) (by omega) (by simp <;> omega) (W1.heap.size + 1) (by simp) ?_; intro gg cap w2 hown1 hgrow hatg hlt2)
        exact ⟨⟨i + 1, some ⟨gg, 0, none⟩, cap, by omega, by go_num, rfl, HNEXT.out _ _ _ hown1 hgrow hatg⟩, by simp [intOf]; omega⟩
    · obtain rfl : i = fs.length := by omega
      have d1 : decide ((fs.length : Int) < (fs.length : Int)) = false := decide_eq_false (by omega)
      go_wp2_with fail
      go_ret
      have hcap := HROW.out.cap (by rw [HLEN.out])
      obtain ⟨ws, k1, k2, k3, k4⟩ := HROW.out
      have k6 : ws.length = fs.length := by rw [k1, HLEN.out]
      have hL : Lies wr (.slice vp fs.length vc) fs.length 4 (itsCells ws) := by
        have := Lies.own k2
        rwa [k6] at this
      exact ⟨vp, vc, ws, rfl, k6, hL, k3, HB.out, hcap, fun a ha => (k2.lt a.block (by rw [ha]; rfl)).1, fun y hy a ha => (k4 y hy a ha).2.2⟩
theorem valsOf4_any (nm : ByteArray) (q : Option Addr) (c : Nat) (fs : List Fl) (hf : fs.length ≤ 8) (hok : ∀ (i : Nat) (h : i < fs.length), rtB fs[i].k fs[i].o = true) (l : List Int) (lp : Option Addr) (lc : Nat) (hll : l.length ≤ 9223372036854775807) (many : Int) (hm : 1 ≤ many ∧ many ≤ 1000) (w : World) (hF : FLies w q fs.length c fs) (hI : ILies w lp lc l) :
    Calls Tryd.prog 9 #[clV nm q fs.length c, .slice lp l.length lc, .int .i64 many] w (valsOf4Post fs l many w) := by
  refine (valsOf4_cap nm q c fs hf hok l lp lc hll many hm w hF hI).mono ?_
  rintro e w' ⟨p, c', ys, h1, h2, h3, h4, h5, _⟩
  exact ⟨p, c', h1, ⟨ys, h2.symm, by rw [h2, vsTo_len], by rw [h2]; exact h3, h4⟩, h5⟩
end Go.Proofs.YtffoklhopmhjaaaDoor

/- What ClassFits carries along; rows that are copied and stored into. -/
set_option linter.unusedSimpArgs false
set_option linter.unusedVariables false
namespace Go.Proofs.YtffoklhopmhjaaaDoor
open Go Go.RowKit Go.Shelf

theorem its_one : ∀ (ys : List It), ∀ u ∈ itsCells ys, u.oneCell' = true
  | [], u, hu => by cases hu
  | y :: ys, u, hu => by
    have hu' : u ∈ y.cells ++ itsCells ys := hu
    rcases List.mem_append.1 hu' with h | h
    · simp only [It.cells, List.mem_cons, List.mem_nil_iff, or_false] at h
      rcases h with rfl | rfl | rfl | rfl <;> rfl
    · exact its_one ys u h
theorem vrow_add {base : Nat} {W0 W W' : World} {vs : List V} {v v' : Value} {u : V} {y : It} {ys : List It} (h1 : ys.length = vs.length) (h2 : W0.ownsRow base 31 4 v ys.length (itsCells ys)) (h3 : ∀ (i : Nat) (h : i < ys.length) (h' : i < vs.length), VAt 1 W0 vs[i] ys[i]) (h4 : ∀ y ∈ ys, ∀ a, y.p = some a → v.ownBlock ≠ some a.block ∧ a.block < W0.heap.size ∧ base ≤ a.block) (hbase : base ≤ W0.heap.size)
    (hb : Below W0.heap.size W0 W) (hy : VAt 1 W u y) (hya : ∀ a, y.p = some a → W0.heap.size ≤ a.block ∧ a.block < W.heap.size)
    (hg : W.grownBy W' v.ownBlock) (ho' : W'.ownsRow base 31 4 v' (ys.length + 1) (itsCells ys ++ y.cells)) (hat : ∀ b, v'.ownBlock = some b → v.ownBlock = some b ∨ W.heap.size ≤ b) : VRow base W' (vs ++ [u]) v' := by
  have hall : ∀ z ∈ ys ++ [y], ∀ a, z.p = some a → v.ownBlock ≠ some a.block ∧ a.block < W.heap.size ∧ base ≤ a.block := fun z hz a ha => by
    rcases List.mem_append.1 hz with hz | hz
    · exact ⟨(h4 z hz a ha).1, Nat.lt_of_lt_of_le (h4 z hz a ha).2.1 hb.size, (h4 z hz a ha).2.2⟩
    · rw [List.mem_singleton.1 hz] at ha
      refine ⟨fun e => ?_, (hya a ha).2, by have := (hya a ha).1; omega⟩
      have := (h2.lt _ e).2
      have := (hya a ha).1
      omega
  refine ⟨ys ++ [y], by simp [h1], ?_, fun i a b => ?_, fun z hz a ha => ⟨fun e => ?_, Nat.lt_of_lt_of_le (hall z hz a ha).2.1 hg.size, (hall z hz a ha).2.2⟩⟩
  · rw [its_app, List.length_append]; exact ho'
  · have hz : (ys ++ [y])[i] ∈ ys ++ [y] := List.getElem_mem a
    have hne := hall _ hz
    refine vat_grown (W := W) ?_ hg (fun q hq => (hne q hq).1)
    rcases Nat.lt_or_ge i ys.length with hl | hl
    · have e1 : (ys ++ [y])[i] = ys[i] := List.getElem_append_left hl
      have e2 : (vs ++ [u])[i] = vs[i]'(by omega) := List.getElem_append_left (by omega)
      rw [e1, e2]
      exact (h3 i hl (by omega)).below hb
    · obtain rfl : i = ys.length := by simp at a; omega
      have e1 : (ys ++ [y])[ys.length] = y := by simp
      have e2 : (vs ++ [u])[ys.length] = u := by simp [h1]
      rw [e1, e2]
      exact hy
  · rcases hat _ e with h5 | h5
    · exact (hall z hz a ha).1 h5
    · have := (hall z hz a ha).2.1
      omega
/-- a copied row, one value of which is stored anew -/
theorem vcopy {W W' : World} {g n c : Nat} {ys : List It} (hn : n = ys.length) (ho : W'.ownsRow W.heap.size 31 4 (.slice (some ⟨g, 0, none⟩) n c) n (itsCells ys)) (hg : W.grownBy W' none) (k : Nat) (hk : k < ys.length) (y : It) :
    Below W.heap.size W ((((W'.setCell ⟨g, k * 4, none⟩ (.int .i64 y.k)).setCell ⟨g, k * 4 + 1, none⟩ (.int .i64 y.n)).setCell ⟨g, k * 4 + 2, none⟩ (.string y.s)).setCell ⟨g, k * 4 + 3, none⟩ (.slice y.p y.m y.c)) ∧
    Lies ((((W'.setCell ⟨g, k * 4, none⟩ (.int .i64 y.k)).setCell ⟨g, k * 4 + 1, none⟩ (.int .i64 y.n)).setCell ⟨g, k * 4 + 2, none⟩ (.string y.s)).setCell ⟨g, k * 4 + 3, none⟩ (.slice y.p y.m y.c)) (.slice (some ⟨g, 0, none⟩) n c) n 4 (itsCells (ys.set k y)) := by
  have hl := (ho.lt g rfl).1
  exact ⟨((((below_none hg).setCell (p := ⟨g, k * 4, none⟩) hl _).setCell (p := ⟨g, k * 4 + 1, none⟩) hl _).setCell (p := ⟨g, k * 4 + 2, none⟩) hl _).setCell (p := ⟨g, k * 4 + 3, none⟩) hl _, Lies.own ((VOwn.mk hn ho).put k hk y).row⟩
theorem vsat_set {W : World} {vs : List V} {ys : List It} {k : Nat} {v : V} {y : It} {vp : Option Addr} {n c : Nat} (hn : n = ys.length) (hlen : ys.length = vs.length) (hl : Lies W (.slice vp n c) n 4 (itsCells (ys.set k y))) (hi : ∀ (i : Nat) (h : i < ys.length) (h' : i < vs.length), VAt 1 W vs[i] ys[i]) (hy : VAt 1 W v y) : VsAt 1 W (vs.set k v) vp n c := by
  subst hn
  refine ⟨ys.set k y, by simp, by simp [hlen], by rw [List.length_set]; exact hl, fun i a b => ?_⟩
  rw [List.getElem_set, List.getElem_set]
  split
  · exact hy
  · exact hi i (by simpa using a) (by simpa using b)
/-- the class, and its values -/
structure FitSt (ea : Addr) (w : World) (ba : Nat) (a : Cl) (q : Option Addr) (c : Nat) (vs : List V) (ys : List It) (vp : Option Addr) (vc : Nat) (W : World) : Prop where
  oc : OC ea w ba a q c W
  vl : Lies W (.slice vp ys.length vc) ys.length 4 (itsCells ys)
  vi : ∀ (i : Nat) (h : i < ys.length) (h' : i < vs.length), VAt 1 W vs[i] ys[i]
section
variable {ea : Addr} {w : World} {ba : Nat} {a : Cl} {q : Option Addr} {c : Nat} {vs : List V} {ys : List It} {vp : Option Addr} {vc : Nat} {W W' : World}
theorem FitSt.go (h : FitSt ea w ba a q c vs ys vp vc W) (hb : Below W.heap.size W W') : FitSt ea w ba a q c vs ys vp vc W' := ⟨h.oc.go hb, h.vl.below hb, fun i a b => (h.vi i a b).below hb⟩
theorem FitSt.at (h : FitSt ea w ba a q c vs ys vp vc W) (hlen : ys.length = vs.length) : VsAt 1 W vs vp ys.length vc := ⟨ys, rfl, hlen, h.vl, h.vi⟩
end
/-- the k-th value's four cells -/
theorem its_cells {W : World} {vp : Option Addr} {n c : Nat} {ys : List It} (h : Lies W (.slice vp n c) n 4 (itsCells ys)) (k : Nat) (hk : k < ys.length) (hn : n = ys.length) : ∃ b off, vp = some ⟨b, off, none⟩ ∧ b < W.heap.size ∧ W.cell? ⟨b, off + k * 4, none⟩ = some (.int .i64 ys[k].k) ∧ W.cell? ⟨b, off + k * 4 + 1, none⟩ = some (.int .i64 ys[k].n) ∧ W.cell? ⟨b, off + k * 4 + 2, none⟩ = some (.string ys[k].s) ∧ W.cell? ⟨b, off + k * 4 + 3, none⟩ = some (.slice ys[k].p ys[k].m ys[k].c) := by
  obtain ⟨b, off, e, hb, hc⟩ := h.at (by omega)
  have hx : ∀ (j : Nat) (u : Value), (ys[k].cells)[j]? = some u → W.cell? ⟨b, off + k * 4 + j, none⟩ = some u := fun j u hu => by
    rw [Nat.add_assoc]
    exact hc _ _ (itsCells_at ys k hk j u hu)
  exact ⟨b, off, e, hb, hx 0 _ rfl, hx 1 _ rfl, hx 2 _ rfl, hx 3 _ rfl⟩
/-- a class's box that was stored into, and fields of its own -/
theorem Cp.ofBox {W U U' : World} {b : Nat} {nm : ByteArray} {q : Option Addr} {n c g c' : Nat} {fs : List Fl} (hn : n = fs.length) (hbx : CBox U b nm q n c) (hlo : W.heap.size ≤ b) (hU : Below W.heap.size W U) (ho : U'.ownsRow U.heap.size 53 4 (.slice (some ⟨g, 0, none⟩) n c') n (flCells fs)) (hg : U.grownBy U' none) :
    Cp W.heap.size W b nm g n c' fs (U'.setCell ⟨b, 1, none⟩ (.slice (some ⟨g, 0, none⟩) n c')) := by
  have hgl := ho.lt g rfl
  have hbl := hbx.lt
  have hb := below_none hg
  have hs := hU.size
  refine ⟨(hbx.below hb).set1 _ _ _, ⟨hn, ?_⟩, hlo, by omega, ?_⟩
  · exact owned_base (ownsRow_setCell_other ho (a := ⟨b, 1, none⟩) (fun e => by have := Option.some.inj e; simp at this; omega) _) (by omega)
  · exact (hU.trans (hb.mono hs)).setCell (p := ⟨b, 1, none⟩) hlo _
/-- the k-th field's type in its cells -/
theorem fl_type {W : World} {b off n c : Nat} {fs : List Fl} (h : FLies W (some ⟨b, off, none⟩) n c fs) (k : Nat) (hk : k < fs.length) : W.cell? ⟨b, off + k * 4 + 1, none⟩ = some (.int .i64 fs[k].k) ∧ W.cell? ⟨b, off + k * 4 + 2, none⟩ = some (.int .i64 fs[k].o) := by
  obtain ⟨b', off', he, hb, hc⟩ := h.2.at (by omega)
  injection he with he
  injection he with e1 e2
  subst e1 e2
  have h1 := hc (k * 4 + 1) _ (flCells_at fs k hk 1 (.int .i64 fs[k].k) rfl)
  have h2 := hc (k * 4 + 2) _ (flCells_at fs k hk 2 (.int .i64 fs[k].o) rfl)
  rw [← Nat.add_assoc] at h1 h2
  exact ⟨h1, h2⟩
def otherName : ByteArray := ⟨#[111, 116, 104, 101, 114]⟩
theorem otherName_ok : nmOk otherName.data.toList = true := by decide
end Go.Proofs.YtffoklhopmhjaaaDoor

/- What ClassChecks needs: append(nil, xs...) at a step of a region; one of three comes up; values that are raw. -/
set_option linter.unusedSimpArgs false
set_option linter.unusedVariables false
namespace Go.Proofs.YtffoklhopmhjaaaDoor
open Go Go.RowKit Go.Shelf

/-- append(nil, xs...) at a step of a region that draws its order, of no thing or more -/
theorem step_append_copy {P : Program} {w : World} {ops : Array Oper} {o : Oper} {a : Act} {K : Act → World → Prop} {Q : Exit → Act → World → Prop} {E : Prop} (hgd : o.guard = none) (s x : Operand) (t : TypeId)
    (ho : o.op = .call { callee := .builtin .append, args := #[s, x], argTypes := #[t, t] })
    (base : Nat) (e : TypeId) (i : TypeInfo) (z : Value) (size bytes : Nat) (ht : P.underlying t = some (.slice e)) (hi : P.info? e = some i) (hz : i.zero = some z)
    (hsize : i.size = size) (hby : i.bytes = bytes) (hzs : z.cells.size = size) (hsz : 0 < size)
    (hs : a.eval s = .slice none 0 0) (p : Option Addr) (m c : Nat) (xs : List Value) (hx : a.eval x = .slice p m c) (hL : Lies w (.slice p m c) m size xs) (h1 : ∀ u ∈ xs, u.oneCell' = true)
    (h63 : m ≤ maxLen) (hbytes : m * bytes ≤ 140737488355328) (hbase : base ≤ w.heap.size)
    (h : ∀ p' c' w', w'.ownsRow base e size (.slice p' m c') m xs → w.grownBy w' none → K (a.put o.dst (.slice p' m c')) w') :
    if Region.wanted o (yielded ops a.tmps) = true then Oper.wp P o a w K Q else E := by
  rcases Nat.eq_zero_or_pos m with rfl | hm
  · have e0 : xs = [] := List.eq_nil_of_length_eq_zero (by have := hL.1; omega)
    subst e0
    have hw : Region.wanted o (yielded ops a.tmps) = true := by simp [Region.wanted, hgd]
    rw [if_pos hw]
    have hrun := run_append_zero (P := P) (w := w) t o.type e i ht hi p c
    unfold Oper.wp
    simp [execOp, ho, resolve, invoke, builtin, hs, hx, hrun, Result.andThen]
    exact h none 0 w (World.ownsRow_nil _ _ _ _) ⟨rfl, rfl, rfl, Nat.le_refl _, fun _ _ _ => rfl⟩
  · obtain ⟨b, off, rfl, hb, hc⟩ : ∃ b off, p = some ⟨b, off, none⟩ ∧ b < w.heap.size ∧ ∀ j u, xs[j]? = some u → w.cell? ⟨b, off + j, none⟩ = some u := hL.at hm
    refine step_append_lies w hgd s x t ho base e i z size bytes ht hi hz hsize hby hzs hsz (Value.slice none 0 0) 0 [] hs (World.ownsRow_nil _ _ _ _) ⟨b, off, none⟩ m c xs hx hL.1 (fun j u hu => ?_) h1 hm (by omega) (by rw [Nat.zero_add]; exact hbytes) hbase w.heap.size rfl ?_
    · have := hc j u hu
      rwa [show (⟨b, off, none⟩ : Addr).add j = ⟨b, off + j, none⟩ from by unfold Addr.add; split <;> simp_all]
    · intro g cap w' hown hg _ _
      rw [Nat.zero_add] at hown ⊢
      exact h _ _ w' hown hg
section
variable {P : Program} {ops : Array Oper} {Q : Exit → Act → World → Prop} {md : Region.Mode} {S : World → Prop} {T : Nat → Bool}
theorem wpAnyT_three {i j k : Nat} {o o' o'' : Oper} {n : Nat} {listed : Array Bool} {a : Act} {w : World} (hr : Region.ready md ops listed = [i, j, k]) (ho : ops[i]? = some o) (ho' : ops[j]? = some o') (ho'' : ops[k]? = some o'')
    (h : ∀ K : Act → World → Prop, Shut (∀ b u, (T i = false → S u) → wpAnyT P md ops Q S T n (listed.setIfInBounds i true) b u → K b u) → if Region.wanted o (yielded ops a.tmps) = true then Oper.wp P o a w K Q else K (a.put o.dst undef) w)
    (h' : ∀ K : Act → World → Prop, Shut (∀ b u, (T j = false → S u) → wpAnyT P md ops Q S T n (listed.setIfInBounds j true) b u → K b u) → if Region.wanted o' (yielded ops a.tmps) = true then Oper.wp P o' a w K Q else K (a.put o'.dst undef) w)
    (h'' : ∀ K : Act → World → Prop, Shut (∀ b u, (T k = false → S u) → wpAnyT P md ops Q S T n (listed.setIfInBounds k true) b u → K b u) → if Region.wanted o'' (yielded ops a.tmps) = true then Oper.wp P o'' a w K Q else K (a.put o''.dst undef) w) :
    wpAnyT P md ops Q S T (n + 1) listed a w := by
  refine ⟨fun h0 => absurd (hr ▸ h0) (by simp), fun l hl => ?_⟩
  rw [hr] at hl
  rcases List.mem_cons.1 hl with rfl | hl
  · exact wpOp_step ho (fun K hK => h K (fun b u hS hW => hK b u ⟨hS, hW⟩))
  · rcases List.mem_cons.1 hl with rfl | hl
    · exact wpOp_step ho' (fun K hK => h' K (fun b u hS hW => hK b u ⟨hS, hW⟩))
    · obtain rfl : l = k := by simpa using hl
      exact wpOp_step ho'' (fun K hK => h'' K (fun b u hS hW => hK b u ⟨hS, hW⟩))
end
/-- values of a class are short -/
theorem short_ok {v : V} (h : v.ok = true) : v.short := by
  by_cases h5 : v.k = 5
  · obtain ⟨e, h1, h2⟩ := ok_list h h5
    refine ⟨by rw [e]; show (⟨#[]⟩ : ByteArray).size ≤ 100; decide, fun u hu => ?_⟩
    have := (flatOk_parts (okIn_parts (h2 u hu)).2).2.1
    omega
  · have h1 := flatOk_parts (ok_flat h h5)
    refine ⟨by omega, fun u hu => ?_⟩
    have : v.l = [] := List.eq_nil_of_length_eq_zero h1.2.2.1
    rw [this] at hu; cases hu
theorem AllFit.short {fs : List Fl} {vs : List V} (h : AllFit fs vs) : ∀ v ∈ vs, v.short := fun v hv => by
  obtain ⟨i, hi, rfl⟩ := List.getElem_of_mem hv
  exact short_ok (fits_ok (h.2 i hi (by rw [← h.1]; exact hi)))
/-- a value without items -/
theorem flat_short {k n : Int} {s : ByteArray} (hs : s.size ≤ 70) : (V.mk k n s []).short := ⟨by show s.size ≤ 100; omega, fun u hu => by cases hu⟩
/-- the first of some values -/
theorem vsat_take {d : Nat} {W : World} {vs : List V} {p : Option Addr} {m c : Nat} (h : VsAt d W vs p m c) (j : Nat) (hj : j ≤ m) : VsAt d W (vs.take j) p j c := by
  obtain ⟨ys, rfl, h2, h3, h4⟩ := h
  have hl : (ys.take j).length = j := by rw [List.length_take]; omega
  refine ⟨ys.take j, hl.symm, by rw [List.length_take, List.length_take, h2], ?_, fun i a b => ?_⟩
  · rw [hl]
    have hc : (itsCells (ys.take j)).length = j * 4 := by rw [itsCells_length, hl]
    refine ⟨hc, ?_⟩
    rcases Nat.eq_zero_or_pos j with rfl | hp
    · exact .inl ⟨rfl, p, c, rfl⟩
    · obtain ⟨b, off, e, hb, hcx⟩ := h3.at (by omega)
      subst e
      refine .inr ⟨b, off, c, rfl, hb, fun i u hu => hcx i u ?_⟩
      have hs : itsCells ys = itsCells (ys.take j) ++ itsCells (ys.drop j) := by rw [← its_app, List.take_append_drop]
      rw [hs, List.getElem?_append_left (List.getElem?_eq_some_iff.1 hu).1]
      exact hu
  · rw [List.getElem_take, List.getElem_take]
    exact h4 i (by rw [List.length_take] at a; omega) (by rw [List.length_take] at b; omega)
/-- a value behind others -/
theorem vsat_snoc {W : World} {vs : List V} {ys : List It} {v : V} {y : It} {g n c : Nat} (hn : n = ys.length) (hlen : ys.length = vs.length) (hl : Lies W (.slice (some ⟨g, 0, none⟩) (n + 1) c) (n + 1) 4 (itsCells ys ++ y.cells)) (hi : ∀ (i : Nat) (h : i < ys.length) (h' : i < vs.length), VAt 1 W vs[i] ys[i]) (hy : VAt 1 W v y) : VsAt 1 W (vs ++ [v]) (some ⟨g, 0, none⟩) (n + 1) c := by
  subst hn
  refine ⟨ys ++ [y], by simp, by simp [hlen], ?_, fun i a b => ?_⟩
  · rw [List.length_append, List.length_singleton, its_app]; exact hl
  · rcases Nat.lt_or_ge i ys.length with h | h
    · have e1 : (ys ++ [y])[i] = ys[i] := List.getElem_append_left h
      have e2 : (vs ++ [v])[i] = vs[i]'(by omega) := List.getElem_append_left (by omega)
      rw [e1, e2]
      exact hi i h (by omega)
    · obtain rfl : i = ys.length := by simp at a; omega
      have e1 : (ys ++ [y])[ys.length] = y := by simp
      have e2 : (vs ++ [v])[ys.length] = v := by simp [hlen]
      rw [e1, e2]
      exact hy
end Go.Proofs.YtffoklhopmhjaaaDoor

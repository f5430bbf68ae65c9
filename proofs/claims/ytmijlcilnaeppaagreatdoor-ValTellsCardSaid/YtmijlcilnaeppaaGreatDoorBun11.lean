/- Texts put together: RefSign, RefText, RawText, Bx. -/
import Derived.Test.YtmijlcilnaeppaaGreatDoorRefSignAZ
import Derived.Test.YtmijlcilnaeppaaGreatDoorRefSignBZ
import Derived.Test.YtmijlcilnaeppaaGreatDoorRefSignCZ
import Derived.Test.YtmijlcilnaeppaaGreatDoorRefSignDZ
import Derived.Test.YtmijlcilnaeppaaGreatDoorBun6
import Derived.Test.YtmijlcilnaeppaaGreatDoorBun10
/- moraineref03.Sign. -/
set_option linter.unusedSimpArgs false
set_option linter.unusedVariables false
namespace Go.Proofs.YtmijlcilnaeppaaGreatDoor
open Go Go.RowKit Go.Shelf

/-- moraineref03.Sign, of any text -/
theorem sign_any (s : ByteArray) (hs : s.size ≤ 9223372036854775807) (w : World) :
    Calls Tryz.prog 69 #[.string s] w fun e w' => e = .returned (.int .i64 (signL s.data.toList : Nat)) ∧ w = w' := by
  by_cases h0 : 0 < s.size
  · have hb := (s[0]).toNat_lt
    by_cases k0 : (s[0].toNat : Int) ≤ 127
    · exact sign_c0 s hs h0 (by omega) k0 w
    by_cases k1 : (s[0].toNat : Int) ≤ 193
    · exact sign_c1 s hs h0 (by omega) k1 w
    by_cases k2 : (s[0].toNat : Int) ≤ 223
    · by_cases hn : s.size < 2
      · exact sign_c2_short s hs h0 (by omega) k2 hn w
      · by_cases ha : (s[1].toNat : Int) < 128
        · exact sign_c2_low s hs h0 (by omega) k2 (by omega) ha w
        · by_cases hh : 191 < (s[1].toNat : Int)
          · exact sign_c2_high s hs h0 (by omega) k2 (by omega) hh w
          · exact sign_c2_loop s hs h0 (by omega) k2 (by omega) (by omega) (by omega) w
    by_cases k3 : (s[0].toNat : Int) ≤ 224
    · by_cases hn : s.size < 3
      · exact sign_c3_short s hs h0 (by omega) k3 hn w
      · by_cases ha : (s[1].toNat : Int) < 160
        · exact sign_c3_low s hs h0 (by omega) k3 (by omega) ha w
        · by_cases hh : 191 < (s[1].toNat : Int)
          · exact sign_c3_high s hs h0 (by omega) k3 (by omega) hh w
          · exact sign_c3_loop s hs h0 (by omega) k3 (by omega) (by omega) (by omega) w
    by_cases k4 : (s[0].toNat : Int) ≤ 236
    · by_cases hn : s.size < 3
      · exact sign_c4_short s hs h0 (by omega) k4 hn w
      · by_cases ha : (s[1].toNat : Int) < 128
        · exact sign_c4_low s hs h0 (by omega) k4 (by omega) ha w
        · by_cases hh : 191 < (s[1].toNat : Int)
          · exact sign_c4_high s hs h0 (by omega) k4 (by omega) hh w
          · exact sign_c4_loop s hs h0 (by omega) k4 (by omega) (by omega) (by omega) w
    by_cases k5 : (s[0].toNat : Int) ≤ 237
    · by_cases hn : s.size < 3
      · exact sign_c5_short s hs h0 (by omega) k5 hn w
      · by_cases ha : (s[1].toNat : Int) < 128
        · exact sign_c5_low s hs h0 (by omega) k5 (by omega) ha w
        · by_cases hh : 159 < (s[1].toNat : Int)
          · exact sign_c5_high s hs h0 (by omega) k5 (by omega) hh w
          · exact sign_c5_loop s hs h0 (by omega) k5 (by omega) (by omega) (by omega) w
    by_cases k6 : (s[0].toNat : Int) ≤ 239
    · by_cases hn : s.size < 3
      · exact sign_c6_short s hs h0 (by omega) k6 hn w
      · by_cases ha : (s[1].toNat : Int) < 128
        · exact sign_c6_low s hs h0 (by omega) k6 (by omega) ha w
        · by_cases hh : 191 < (s[1].toNat : Int)
          · exact sign_c6_high s hs h0 (by omega) k6 (by omega) hh w
          · exact sign_c6_loop s hs h0 (by omega) k6 (by omega) (by omega) (by omega) w
    by_cases k7 : (s[0].toNat : Int) ≤ 240
    · by_cases hn : s.size < 4
      · exact sign_c7_short s hs h0 (by omega) k7 hn w
      · by_cases ha : (s[1].toNat : Int) < 144
        · exact sign_c7_low s hs h0 (by omega) k7 (by omega) ha w
        · by_cases hh : 191 < (s[1].toNat : Int)
          · exact sign_c7_high s hs h0 (by omega) k7 (by omega) hh w
          · exact sign_c7_loop s hs h0 (by omega) k7 (by omega) (by omega) (by omega) w
    by_cases k8 : (s[0].toNat : Int) ≤ 243
    · by_cases hn : s.size < 4
      · exact sign_c8_short s hs h0 (by omega) k8 hn w
      · by_cases ha : (s[1].toNat : Int) < 128
        · exact sign_c8_low s hs h0 (by omega) k8 (by omega) ha w
        · by_cases hh : 191 < (s[1].toNat : Int)
          · exact sign_c8_high s hs h0 (by omega) k8 (by omega) hh w
          · exact sign_c8_loop s hs h0 (by omega) k8 (by omega) (by omega) (by omega) w
    by_cases k9 : (s[0].toNat : Int) ≤ 244
    · by_cases hn : s.size < 4
      · exact sign_c9_short s hs h0 (by omega) k9 hn w
      · by_cases ha : (s[1].toNat : Int) < 128
        · exact sign_c9_low s hs h0 (by omega) k9 (by omega) ha w
        · by_cases hh : 143 < (s[1].toNat : Int)
          · exact sign_c9_high s hs h0 (by omega) k9 (by omega) hh w
          · exact sign_c9_loop s hs h0 (by omega) k9 (by omega) (by omega) (by omega) w
    by_cases k10 : (s[0].toNat : Int) ≤ 255
    · exact sign_c10 s hs h0 (by omega) k10 w
    exfalso; omega
  · exact sign_empty s (by omega) w
end Go.Proofs.YtmijlcilnaeppaaGreatDoor

/- moraineref03.IsText. -/
set_option linter.unusedSimpArgs false
set_option linter.unusedVariables false
namespace Go.Proofs.YtmijlcilnaeppaaGreatDoor
open Go Go.RowKit Go.Shelf

theorem extract_toList' (s : ByteArray) (a b : Nat) : (s.extract a b).data.toList = (s.data.toList.drop a).take (b - a) := by
  rw [← Lib.toList_data, Lib.extract_toList]
theorem extract_end (s : ByteArray) (a : Nat) : (s.extract a s.size).data.toList = s.data.toList.drop a := by
  rw [extract_toList', List.take_of_length_le (by simp)]
theorem textOk_at (s : ByteArray) (k : Nat) (h : k < s.size) : textOk (s.data.toList.drop k) = if signL (s.data.toList.drop k) = 0 ∨ (s[k].toNat : Int) < 32 ∨ (s[k].toNat : Int) = 127 then false else textOk (s.data.toList.drop (k + signL (s.data.toList.drop k))) := by
  have h' : k < s.data.toList.length := by simpa using h
  have hd : s.data.toList.drop k = s[k] :: s.data.toList.drop (k + 1) := by rw [List.drop_eq_getElem_cons h']; rfl
  have hne : s.data.toList.drop k ≠ [] := by rw [hd]; simp
  rw [textOk_step _ hne, List.drop_drop]
  have e : ((s.data.toList.drop k).getD 0 0).toNat = s[k].toNat := by rw [hd]; rfl
  rw [e]
  by_cases hs : signL (s.data.toList.drop k) = 0 ∨ (s[k].toNat : Int) < 32 ∨ (s[k].toNat : Int) = 127
  · rw [if_pos hs, if_pos (by omega)]
  · rw [if_neg hs, if_neg (by omega)]

set_option maxHeartbeats 4000000 in
set_option maxRecDepth 100000 in
theorem isText_any (s : ByteArray) (hs : s.size ≤ 9223372036854775800) (w : World) :
    Calls Tryz.prog 38 #[.string s] w fun e w' => e = .returned (.bool (textOk s.data.toList)) ∧ w = w' := by
  generalize hr : textOk s.data.toList = r
  have HR := Lib.hid hr
  clear hr
  go_enter Tryz.func38, Tryz.ntmps38
  go_wp2_with fail
  go_loopw [3] (fun i wr => ∃ k : Nat, k ≤ s.size ∧ i = .int .i64 (k : Int) ∧ textOk (s.data.toList.drop k) = r ∧ w = wr) (fun i _ => s.size - (intOf i).toNat)
  case atStart => exact ⟨0, by omega, rfl, HR.out, rfl⟩
  case round =>
    obtain ⟨k, hk, rfl, ht, rfl⟩ := hrel
    have HT := Lib.hid ht
    clear ht
    by_cases hlt : k < s.size
    · have hst := textOk_at s k hlt
      have hsz : (s.extract k s.size).size ≤ 9223372036854775807 := by rw [ByteArray.size_extract]; omega
      have hcall := fun w => sign_any (s.extract k s.size) hsz w
      rw [extract_end] at hcall
      have hle : signL (s.data.toList.drop k) ≤ 4 := signL_le _
      have hle2 : signL (s.data.toList.drop k) ≤ s.size - k := by
        by_cases hz : signL (s.data.toList.drop k) = 0
        · omega
        · have := (signL_pos _ hz).2.1
          simpa using this
      generalize signL (s.data.toList.drop k) = n at hst hcall hle hle2
      rw [HT.out] at hst
      have HST := Lib.hid hst
      have HC := Lib.hid hcall
      clear hst hcall hsz
      have hx : (s[k].toNat : Int) ≤ 255 := by have := (s[k]'hlt).toNat_lt; omega
      by_cases h0 : n = 0
      · have d1 : ((n : Int) == 0) = true := by rw [beq_iff_eq]; omega
        have hz : r = false := by rw [HST.out, if_pos (.inl h0)]
        have HZ := Lib.hid hz
        clear hz h0
        go_wp2_with (go_at_call 69; refine (HC.out _).mono ?_; rintro e w1 ⟨rfl, rfl⟩)
        go_ret
        exact ⟨by rw [HZ.out]; rfl, rfl⟩
      · have d1 : ((n : Int) == 0) = false := by rw [beq_eq_false_iff_ne]; omega
        by_cases h1 : (s[k].toNat : Int) < 32
        · have d2 : decide ((s[k].toNat : Int) < 32) = true := decide_eq_true h1
          have hz : r = false := by rw [HST.out, if_pos (.inr (.inl h1))]
          have HZ := Lib.hid hz
          clear hz
          go_wp2_with (go_at_call 69; refine (HC.out _).mono ?_; rintro e w1 ⟨rfl, rfl⟩)
          go_ret
          exact ⟨by rw [HZ.out]; rfl, rfl⟩
        · have d2 : decide ((s[k].toNat : Int) < 32) = false := decide_eq_false h1
          by_cases h2 : (s[k].toNat : Int) = 127
          · have d3 : ((s[k].toNat : Int) == 127) = true := by rw [beq_iff_eq]; exact h2
            have hz : r = false := by rw [HST.out, if_pos (.inr (.inr h2))]
            have HZ := Lib.hid hz
            clear hz h2
            go_wp2_with (go_at_call 69; refine (HC.out _).mono ?_; rintro e w1 ⟨rfl, rfl⟩)
            go_ret
            exact ⟨by rw [HZ.out]; rfl, rfl⟩
          · have d3 : ((s[k].toNat : Int) == 127) = false := by rw [beq_eq_false_iff_ne]; exact h2
            have hz : textOk (s.data.toList.drop (k + n)) = r := by
              have := HST.out
              rw [if_neg (by omega)] at this
              exact this.symm
            have HZ := Lib.hid hz
            clear hz h2
            go_wp2_with (go_at_call 69; refine (HC.out _).mono ?_; rintro e w1 ⟨rfl, rfl⟩)
            exact ⟨⟨k + n, by omega, by go_num, HZ.out, by trivial⟩, by simp [intOf]; omega⟩
    · obtain rfl : k = s.size := by omega
      have hz : r = true := by
        rw [← HT.out, List.drop_eq_nil_of_le (by simp)]; rfl
      have HZ := Lib.hid hz
      clear hz
      go_wp2_with fail
      go_ret
      exact ⟨by rw [HZ.out]; rfl, rfl⟩

end Go.Proofs.YtmijlcilnaeppaaGreatDoor

/- morainelaw03.ValText. -/
set_option linter.unusedSimpArgs false
set_option linter.unusedVariables false
namespace Go.Proofs.YtmijlcilnaeppaaGreatDoor
open Go Go.RowKit Go.Shelf

def vtAt (s : ByteArray) (k : Nat) (out : List UInt8) : List UInt8 := vtGo (s.size - k) (s.data.toList.drop k) out
theorem vtAt_stop (s : ByteArray) (k : Nat) (out : List UInt8) (h : s.size ≤ k ∨ 17 ≤ out.length) : vtAt s k out = out := by
  unfold vtAt
  cases hf : s.size - k with
  | zero => rfl
  | succ f =>
    unfold vtGo
    rw [if_pos]
    rcases h with h | h
    · omega
    · exact .inr h
theorem vtAt_step (s : ByteArray) (k : Nat) (out : List UInt8) (hk : k < s.size) (h : out.length < 17) (n : Nat) (hn : n = max (signL (s.data.toList.drop k)) 1) : vtAt s k out = vtAt s (k + n) (if textOk (s.extract k (k + n)).data.toList = true then out ++ (s.extract k (k + n)).data.toList else out) := by
  have hl : (s.data.toList.drop k).length = s.size - k := by simp
  have hne : s.data.toList.drop k ≠ [] := fun e => by rw [e] at hl; simp at hl; omega
  obtain ⟨f, hf⟩ : ∃ f, s.size - k = f + 1 := ⟨s.size - k - 1, by omega⟩
  have e1 : (s.extract k (k + n)).data.toList = (s.data.toList.drop k).take n := by rw [extract_toList', Nat.add_sub_cancel_left]
  rw [e1]
  unfold vtAt
  rw [hf]
  conv => lhs; unfold vtGo
  rw [if_neg (by rintro (h' | h'); exact hne h'; omega), ← hn, List.drop_drop]
  exact vtGo_fuel _ _ _ _ (by rw [List.length_drop]; simp; omega) (by rw [List.length_drop]; simp)

set_option maxHeartbeats 4000000 in
set_option maxRecDepth 100000 in
theorem valText_any (s : ByteArray) (hs : s.size ≤ 9223372036854775807) (w : World) :
    Calls Tryz.prog 57 #[.string s] w fun e w' => e = .returned (.string ⟨(valText s.data.toList).toArray⟩) ∧ w = w' := by
  have hr : vtAt s 0 [] = valText s.data.toList := by
    unfold vtAt valText
    rw [List.drop_zero]
    have : s.data.toList.length = s.size := by simp
    rw [this]; rfl
  generalize valText s.data.toList = r at hr ⊢
  have HR := Lib.hid hr
  clear hr
  go_enter Tryz.func57, Tryz.ntmps57
  go_wp2_with fail
  go_loopw [3, 4] (fun o i wr => ∃ (k : Nat) (out : List UInt8), k ≤ s.size ∧ i = .int .i64 (k : Int) ∧ o = .string ⟨out.toArray⟩ ∧ out.length ≤ 21 ∧ vtAt s k out = r ∧ w = wr) (fun _ i _ => s.size - (intOf i).toNat)
  case atStart => exact ⟨0, [], by omega, rfl, rfl, by simp, HR.out, rfl⟩
  case round =>
    obtain ⟨k, out, hk, rfl, rfl, ho, hv, rfl⟩ := hrel
    have HV := Lib.hid hv
    clear hv
    have hosz : (⟨out.toArray⟩ : ByteArray).size = out.length := ba_size out
    have hds : decide ((out.length : Int) < 17) = decide (out.length < 17) := by rw [decide_eq_decide]; omega
    by_cases hlt : k < s.size
    · by_cases h17 : out.length < 17
      · have d17 : decide ((((⟨out.toArray⟩ : ByteArray).size : Nat) : Int) < 17) = true := by rw [hosz]; exact decide_eq_true (by omega)
        obtain ⟨n, hn⟩ : ∃ n, n = max (signL (s.data.toList.drop k)) 1 := ⟨_, rfl⟩
        have hst := vtAt_step s k out hlt h17 n hn
        have hle : signL (s.data.toList.drop k) ≤ 4 := signL_le _
        have hle2 : signL (s.data.toList.drop k) ≤ s.size - k := by
          by_cases hz : signL (s.data.toList.drop k) = 0
          · omega
          · have := (signL_pos _ hz).2.1
            simpa using this
        have hn1 : 1 ≤ n := by omega
        have hn4 : n ≤ 4 := by omega
        have hkn : k + n ≤ s.size := by omega
        have hsz : (s.extract k s.size).size ≤ 9223372036854775807 := by rw [ByteArray.size_extract]; omega
        have hsz2 : (s.extract k (k + n)).size ≤ 9223372036854775800 := by rw [ByteArray.size_extract]; omega
        have hcall := fun w => sign_any (s.extract k s.size) hsz w
        rw [extract_end] at hcall
        have hcall2 := fun w => isText_any (s.extract k (k + n)) hsz2 w
        have hlen : (s.extract k (k + n)).data.toList.length ≤ 4 := by rw [extract_toList', List.length_take]; omega
        generalize hm : signL (s.data.toList.drop k) = m at hcall hn hle hle2
        rw [HV.out] at hst
        have HST := Lib.hid hst
        have HC := Lib.hid hcall
        have HC2 := Lib.hid hcall2
        have HLEN := Lib.hid hlen
        clear hst hcall hcall2 hsz hsz2 hm hds hosz hlen
        by_cases hm0 : m = 0
        · subst hm0
          obtain rfl : n = 1 := by omega
          clear hn hle hle2
          go_wp2_with fail
          refine (HC.out _).mono ?_
          rintro e w1 ⟨rfl, rfl⟩
          go_wp2_with fail
          refine (HC2.out _).mono ?_
          rintro e w1 ⟨rfl, rfl⟩
          cases htx : textOk (s.extract k (k + 1)).data.toList with
          | true =>
            have hq : vtAt s (k + 1) (out ++ (s.extract k (k + 1)).data.toList) = r := by
              have := HST.out
              rw [htx, if_pos rfl] at this
              exact this.symm
            have HQ := Lib.hid hq
            clear hq htx
            go_wp2_with fail
            exact ⟨⟨k + 1, out ++ (s.extract k (k + 1)).data.toList, by omega, by go_num, congrArg Value.string (bytes_append _ _), by have := HLEN.out; rw [List.length_append]; omega, HQ.out, by trivial⟩, by simp [intOf]; omega⟩
          | false =>
            have hq : vtAt s (k + 1) out = r := by
              have := HST.out
              rw [htx, if_neg (by decide)] at this
              exact this.symm
            have HQ := Lib.hid hq
            clear hq htx
            go_wp2_with fail
            exact ⟨⟨k + 1, out, by omega, by go_num, rfl, by omega, HQ.out, by trivial⟩, by simp [intOf]; omega⟩
        · obtain rfl : n = m := by omega
          have hm1 : (1 : Int) ≤ (n : Int) := by omega
          have hmx : max (n : Int) 1 = (n : Int) := by omega
          clear hn hle hle2 hm0
          go_wp2_with fail
          refine (HC.out _).mono ?_
          rintro e w1 ⟨rfl, rfl⟩
          go_wp2_with fail
          refine (HC2.out _).mono ?_
          rintro e w1 ⟨rfl, rfl⟩
          cases htx : textOk (s.extract k (k + n)).data.toList with
          | true =>
            have hq : vtAt s (k + n) (out ++ (s.extract k (k + n)).data.toList) = r := by
              have := HST.out
              rw [htx, if_pos rfl] at this
              exact this.symm
            have HQ := Lib.hid hq
            clear hq htx
            go_wp2_with fail
            exact ⟨⟨k + n, out ++ (s.extract k (k + n)).data.toList, by omega, by go_num, congrArg Value.string (bytes_append _ _), by have := HLEN.out; rw [List.length_append]; omega, HQ.out, by trivial⟩, by simp [intOf]; omega⟩
          | false =>
            have hq : vtAt s (k + n) out = r := by
              have := HST.out
              rw [htx, if_neg (by decide)] at this
              exact this.symm
            have HQ := Lib.hid hq
            clear hq htx
            go_wp2_with fail
            exact ⟨⟨k + n, out, by omega, by go_num, rfl, by omega, HQ.out, by trivial⟩, by simp [intOf]; omega⟩
      · have hq := vtAt_stop s k out (.inr (by omega))
        rw [HV.out] at hq
        have HQ := Lib.hid hq
        clear hq hds hosz
        go_wp2_with fail
        go_ret
        exact ⟨by rw [HQ.out]; rfl, rfl⟩
    · obtain rfl : k = s.size := by omega
      have hq := vtAt_stop s s.size out (.inl (Nat.le_refl _))
      rw [HV.out] at hq
      have HQ := Lib.hid hq
      clear hq hds hosz
      go_wp2_with fail
      go_ret
      exact ⟨by rw [HQ.out]; rfl, rfl⟩
end Go.Proofs.YtmijlcilnaeppaaGreatDoor

/- A block of cells, of any type. -/
set_option linter.unusedSimpArgs false
set_option linter.unusedVariables false
namespace Go.Proofs.YtmijlcilnaeppaaGreatDoor
open Go Go.RowKit Go.Shelf

/-- block b is these cells -/
def Bx (W : World) (b : Nat) (T : TypeId) (A : Array Value) : Prop := W.heap[b]? = some (.cells A T (0, 0))
section
variable {W W' : World} {b : Nat} {T : TypeId} {A : Array Value}
theorem Bx.lt (h : Bx W b T A) : b < W.heap.size := (Array.getElem?_eq_some_iff.1 h).1
theorem Bx.new (W : World) (T : TypeId) (A : Array Value) : Bx (W.alloc (.cells A T)) W.heap.size T A := World.alloc_heap_new _ _
theorem Bx.alloc (h : Bx W b T A) (x : Obj) : Bx (W.alloc x) b T A := (Lib.alloc_old W x b h.lt).trans h
theorem Bx.below (h : Bx W b T A) (hb : Below W.heap.size W W') : Bx W' b T A := (hb.block b h.lt).trans h
theorem Bx.below' {B : Nat} (h : Bx W b T A) (hb : Below B W W') (hlt : b < B) : Bx W' b T A := (hb.block b hlt).trans h
theorem Bx.past (h : Bx W b T A) (a : Addr) (ha : b ≠ a.block) (u : Value) : Bx (W.setCell a u) b T A := (Below.heap_setCell W a u b ha).trans h
theorem Bx.kept {r : Nat} (h : Bx W b T A) (hb : W.grownBy W' (some r)) (hne : b ≠ r) : Bx W' b T A := (hb.block b h.lt (fun e => hne (Option.some.inj e))).trans h
theorem Bx.grown {r : Option Nat} (h : Bx W b T A) (hb : W.grownBy W' r) (hne : some b ≠ r) : Bx W' b T A := (hb.block b h.lt hne).trans h
theorem Bx.at (h : Bx W b T A) (i : Nat) {u : Value} (hu : A[i]? = some u) : W.cell? ⟨b, i, none⟩ = some u := by
  rw [Lib.cell_of_heap h]; exact hu
theorem Bx.free (h : Bx W b T A) (i : Nat) : W.frozen? ⟨b, i, none⟩ = false := Lib.frozen_of_heap h i
theorem Bx.set (h : Bx W b T A) (i : Nat) (u : Value) : Bx (W.setCell ⟨b, i, none⟩ u) b T (A.setIfInBounds i u) := heap_setCell_same W b i _ _ u h
theorem Bx.lies {n c size : Nat} {xs : List Value} (h : Bx W b T A) (hx : A.toList = xs) (hl : xs.length = n * size) : Lies W (.slice (some ⟨b, 0, none⟩) n c) n size xs :=
  ⟨hl, .inr ⟨b, 0, c, rfl, h.lt, fun j u hu => by rw [Nat.zero_add]; exact h.at j (by rw [← Array.getElem?_toList, hx]; exact hu)⟩⟩
end
/-- the result's box, written at the end -/
theorem out_box {B b : Nat} {w W : World} {k n : Int} {s : ByteArray} {l : Value} (hV : VBox W b k n s l) (hB : Below B w W) (hb : B ≤ b) (k' n' : Int) (s' : ByteArray) (l' : Value) :
    VBox (putBox W b k' n' s' l') b k' n' s' l' ∧ Below B w (putBox W b k' n' s' l') := ⟨hV.put k' n' s' l', below_put hB hb k' n' s' l'⟩
end Go.Proofs.YtmijlcilnaeppaaGreatDoor

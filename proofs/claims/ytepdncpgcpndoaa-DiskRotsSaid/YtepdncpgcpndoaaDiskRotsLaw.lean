/- The walk of DiskRots. -/
import Derived.Deep.QuietTactic
import Derived.BigQuiet
import Derived.Test.YtepdncpgcpndoaaDiskSumLaw
set_option linter.unusedSimpArgs false
set_option linter.unusedVariables false
namespace Wire
theorem flat_get (l : List (List UInt8)) (h : ∀ s ∈ l, s.length = 64) (k : Nat) (hk : k < l.length) (p : Nat) (hp : p < 64) : l.flatten[64 * k + p]? = l[k][p]? := by
  induction l generalizing k with
  | nil => simp at hk
  | cons a r ih =>
    have ha := h a List.mem_cons_self
    rw [List.flatten_cons]
    cases k with
    | zero => rw [Nat.mul_zero, Nat.zero_add, List.getElem?_append_left (by omega)]; rfl
    | succ k =>
      rw [List.getElem?_append_right (by omega), show 64 * (k + 1) + p - a.length = 64 * k + p from by omega]
      exact ih (fun s hs => h s (List.mem_cons_of_mem _ hs)) k (by simpa using hk)
theorem flat_set (l : List (List UInt8)) (h : ∀ s ∈ l, s.length = 64) (k : Nat) (hk : k < l.length) (p : Nat) (hp : p < 64) (b : UInt8) : (l.set k (l[k].set p b)).flatten = l.flatten.set (64 * k + p) b := by
  induction l generalizing k with
  | nil => simp at hk
  | cons a r ih =>
    have ha := h a List.mem_cons_self
    cases k with
    | zero =>
      rw [List.set_cons_zero, List.flatten_cons, List.flatten_cons, Nat.mul_zero, Nat.zero_add, List.set_append_left _ _ (by omega)]
      rfl
    | succ k =>
      rw [List.set_cons_succ, List.flatten_cons, List.flatten_cons, List.set_append_right _ _ (by omega), show 64 * (k + 1) + p - a.length = 64 * k + p from by omega]
      congr 1
      exact ih (fun s hs => h s (List.mem_cons_of_mem _ hs)) k (by simpa using hk)
end Wire
namespace Go.Proofs.Ytepdncpgcpndoaa
open Go Go.RowKit Wire
theorem pick256 (c : Int) (hc : -9223372036854775808 ≤ c ∧ c ≤ 9223372036854775807) (w : World) :
    Calls Try.prog 17 #[.int .i64 c, .int .i64 256] w fun x w' => x = .returned (.int .i64 (pickOf c 256 : Int)) ∧ w = w' := pick_any c 256 hc (by decide) (by decide) w
theorem byte_get (L : List UInt8) (i : Nat) (h : i < (⟨L.toArray⟩ : ByteArray).size) : (⟨L.toArray⟩ : ByteArray)[i] = L[i]'(by simpa [show (⟨L.toArray⟩ : ByteArray).size = L.length from List.size_toArray] using h) := by
  show L.toArray[i]'_ = _
  rw [List.getElem_toArray]

set_option maxRecDepth 100000 in
set_option maxHeartbeats 8000000 in
theorem diskRots_walk (b0 : Option Addr) (n0 c0 : Nat) (ss : List Cl) (at' pl mk : Int) (s : ByteArray) (w : World)
    (hn0 : ss.length = n0) (hc0 : n0 ≤ c0) (hm0 : c0 ≤ maxLen) (hs : Lies w (.slice b0 n0 c0) n0 6 (ss.flatMap Cl.cells)) (hsg : ∀ c ∈ ss, c.good)
    (hat : -9223372036854775808 ≤ at' ∧ at' ≤ 9223372036854775807) (hpl : -9223372036854775808 ≤ pl ∧ pl ≤ 9223372036854775807) (hmk : -9223372036854775808 ≤ mk ∧ mk ≤ 9223372036854775807) (hz : s.size ≤ maxLen) :
    Calls Try.prog 6 #[.slice b0 n0 c0, .int .i64 at', .int .i64 pl, .int .i64 mk, .string s] w fun x w' => x = .returned (.bool true) ∧ Below w.heap.size w w' := by
  subst hn0
  unfold maxLen at hz
  have hG : ∀ (W : World) (L : List Dk), St w L W → Calls Try.prog 12 #[.slice b0 ss.length c0, .slice none 0 0] W fun x W' => ∃ r kb qv, x = .returned (.pointer (some ⟨r, 0, none⟩)) ∧ St w (L ++ [⟨r, kb, qv, ⟨layW (zeros 6).kept (writes ss), [], false, 0⟩⟩]) W' := fun W L h => fill0 h _ ss hs hsg
  have hkl : (layW (zeros 6).kept (writes ss)).length = 6 := layW_length _ _
  have hk64 : ∀ s ∈ layW (zeros 6).kept (writes ss), s.length = 64 := by
    have hgd : (⟨(zeros 6).kept, writes ss, false, 0⟩ : DS).good := ⟨(zeros_good 6 (by decide)).k64, fun p hp => by
      obtain ⟨c, _, rfl⟩ := writes_mem ss p hp
      exact ⟨fullOf_length _, pickOf_lt _ (by decide)⟩, by show 6 ≤ 768; omega, by show 0 ≤ 9223372036854775807; omega⟩
    exact DS.now_64 hgd
  generalize layW (zeros 6).kept (writes ss) = K at hG hkl hk64
  have hkp := pickOf_lt at' (n := 6) (by decide)
  have hpk := pick6 at' hat
  generalize pickOf at' 6 = k at hkp hpk
  have hpp := pickOf_lt pl (n := 64) (by decide)
  have hp64 := pick64 pl hpl
  generalize pickOf pl 64 = p at hpp hp64
  have hmm := pickOf_lt mk (n := 256) (by decide)
  have hp256 := pick256 mk hmk
  generalize pickOf mk 256 = m at hmm hp256
  have hfl := full_any s hz
  have hfz := fullOf_length s.data.toList
  generalize fullOf s.data.toList = f at hfl hfz
  -- the sector that rots
  have hkK : k < K.length := by omega
  obtain ⟨S, hS⟩ : ∃ S, S = K[k] := ⟨_, rfl⟩
  have hS64 : S.length = 64 := by rw [hS]; exact hk64 _ (List.getElem_mem _)
  obtain ⟨b, hb⟩ : ∃ b, S[p]? = some b := ⟨S[p]'(by omega), List.getElem?_eq_getElem _⟩
  obtain ⟨b', hb'⟩ : ∃ b', b' = b ^^^ UInt8.ofNat m := ⟨_, rfl⟩
  have hbb : b' ^^^ UInt8.ofNat m = b := by rw [hb', UInt8.xor_assoc, UInt8.xor_self, UInt8.xor_zero]
  obtain ⟨K1, hK1⟩ : ∃ K1, K1 = K.set k (S.set p b') := ⟨_, rfl⟩
  have hK1l : K1.length = 6 := by rw [hK1, List.length_set]; exact hkl
  have hK1k : K1[k]? = some (S.set p b') := by rw [hK1]; exact List.getElem?_set_self hkK
  have hback : K1.set k ((S.set p b').set p b) = K := by
    have e : S.set p b = S := by
      obtain ⟨h, e⟩ := List.getElem?_eq_some_iff.1 hb
      rw [← e]; exact List.set_getElem_self h
    rw [hK1, List.set_set, List.set_set, e, hS]
    exact List.set_getElem_self hkK
  have hflat : K1.flatten = K.flatten.set (64 * k + p) b' := by rw [hK1, hS]; exact flat_set K hk64 k hkK p hpp b'
  have hfb : K.flatten[64 * k + p]? = some b := by rw [flat_get K hk64 k hkK p hpp, ← hS]; exact hb
  have hfl1 : K.flatten.length = 384 := by rw [flat_len K hk64, hkl]
  have hfl2 : K1.flatten.length = 384 := by rw [hflat, List.length_set]; exact hfl1
  have hsp : (S.set p b')[p]? = some b' := List.getElem?_set_self (by omega)
  have hx : bits .xor .u8 (b.toNat : Int) (m : Int) = (b'.toNat : Int) := by
    rw [hb', u8_xor_nat b.toNat m b.toNat_lt hmm, UInt8.toNat_xor, UInt8.toNat_ofNat', Nat.mod_eq_of_lt (by simpa using hmm)]
  obtain ⟨TW, hTW⟩ : ∃ T : ByteArray, T = ⟨K.flatten.toArray⟩ := ⟨_, rfl⟩
  obtain ⟨TN, hTN⟩ : ∃ T : ByteArray, T = ⟨K1.flatten.toArray⟩ := ⟨_, rfl⟩
  have hTWz : TW.size = 384 := by rw [hTW]; exact List.size_toArray.trans hfl1
  have hTNz : TN.size = 384 := by rw [hTN]; exact List.size_toArray.trans hfl2
  have hW : ∀ i (h : i < TW.size), K.flatten[i]? = some TW[i] := fun i h => by
    subst hTW
    rw [byte_get]
    exact List.getElem?_eq_getElem _
  have hN : ∀ i (h : i < TN.size), K1.flatten[i]? = some TN[i] := fun i h => by
    subst hTN
    rw [byte_get]
    exact List.getElem?_eq_getElem _
  obtain ⟨q, hq⟩ : ∃ q, q = 64 * k + p := ⟨_, rfl⟩
  have hsame : ∀ i (h : i < TW.size) (h' : i < TN.size), i ≠ q → TN[i] = TW[i] := fun i h h' hne => by
    have h1 := hW i h
    have h2 := hN i h'
    rw [hflat, List.getElem?_set_ne (by omega), h1] at h2
    exact (Option.some.inj h2).symm
  have hother : ∀ (h : q < TW.size) (h' : q < TN.size), TW[q] = b ∧ TN[q] = b' := fun h h' => by
    have h1 := hW q h
    have h2 := hN q h'
    subst hq
    rw [hflat, List.getElem?_set_self (by omega)] at h2
    rw [hfb] at h1
    exact ⟨(Option.some.inj h1).symm, (Option.some.inj h2).symm⟩
  have hq4 : q < 384 := by omega
  have HG := Lib.hid hG
  have HKL := Lib.hid hkl
  have HPK := Lib.hid hpk
  have HP64 := Lib.hid hp64
  have HP256 := Lib.hid hp256
  have HFL := Lib.hid hfl
  have HFZ := Lib.hid hfz
  have HS := Lib.hid hS
  have HB := Lib.hid hb
  have HBX := Lib.hid hb'
  have HBB := Lib.hid hbb
  have HK1 := Lib.hid hK1
  have HK1L := Lib.hid hK1l
  have HK1K := Lib.hid hK1k
  have HBK := Lib.hid hback
  have HSP := Lib.hid hsp
  have HX := Lib.hid hx
  have HTW := Lib.hid hTW
  have HTN := Lib.hid hTN
  have HTWZ := Lib.hid hTWz
  have HTNZ := Lib.hid hTNz
  have HSM := Lib.hid hsame
  have HOT := Lib.hid hother
  have HQ := Lib.hid hq
  clear hG hs hsg hkl hk64 hpk hp64 hp256 hfl hfz hS hS64 hb hb' hbb hK1 hK1l hK1k hback hflat hfb hfl1 hfl2 hsp hx hTW hTN hTWz hTNz hW hN hsame hother hq
  have h0 := St.nil w
  go_enter Try.func6, Try.ntmps6
  go_wp2_with fail
  refine (awake_any w).mono ?_
  rintro x w1 ⟨rfl, hb⟩
  have hS := h0.below hb
  clear h0 hb
  go_wp2_with fail
  refine (HG.out _ _ hS).mono ?_
  rintro x w2 ⟨r1, k1, q1, rfl, hS⟩
  go_wp2_with fail
  refine (HG.out _ _ hS).mono ?_
  rintro x w3 ⟨r2, k2, q2, rfl, hS⟩
  replace hS : St w [⟨r1, k1, q1, ⟨K, [], false, 0⟩⟩, ⟨r2, k2, q2, ⟨K, [], false, 0⟩⟩] w3 := hS
  go_wp2_with fail
  refine (all1 hS.d1 (by simp)).mono ?_
  rintro x w4 ⟨rfl, hb⟩
  replace hS := hS.below hb
  clear hb
  rw [show (⟨(layW K []).flatten.toArray⟩ : ByteArray) = TW from HTW.out.symm]
  go_wp2_with fail
  refine (HPK.out _).mono ?_
  rintro x v ⟨rfl, rfl⟩
  go_wp2_with fail
  refine (HP64.out _).mono ?_
  rintro x v ⟨rfl, rfl⟩
  go_wp2_with fail
  refine (HP256.out _).mono ?_
  rintro x v ⟨rfl, rfl⟩
  go_wp2_with fail
  have hro := rot_ok hS.d1 k hkK p m hpp hmm b (by show K[k][p]? = _; rw [← HS.out]; exact HB.out)
  dsimp only at hro
  rw [← HS.out, ← HBX.out, ← HK1.out] at hro
  have HRO := Lib.hid hro
  clear hro
  refine HRO.out.mono ?_
  rintro x w5 ⟨rfl, hd⟩
  replace hS := hS.do1 hd
  clear hd HRO
  go_wp2_with fail
  refine (all1 hS.d1 (by simp)).mono ?_
  rintro x w6 ⟨rfl, hb⟩
  replace hS := hS.below hb
  clear hb
  rw [show (⟨(layW K1 []).flatten.toArray⟩ : ByteArray) = TN from HTN.out.symm]
  have hz1 := HTWZ.out
  have hz2 := HTNZ.out
  go_wp2_with fail
  clear hz1 hz2
  have hst : ∃ q1 q2, St w [⟨r1, k1, q1, ⟨K1, [], false, 0⟩⟩, ⟨r2, k2, q2, ⟨K, [], false, 0⟩⟩] w6 := ⟨_, _, hS⟩
  clear hS
  go_loopw [20] (fun iv wr => ∃ i : Nat, i ≤ 384 ∧ iv = .int .i64 (i : Int) ∧ ∃ q1 q2, St w [⟨r1, k1, q1, ⟨K1, [], false, 0⟩⟩, ⟨r2, k2, q2, ⟨K, [], false, 0⟩⟩] wr) (fun iv _ => 384 - (intOf iv).toNat)
  case atStart => exact ⟨0, Nat.zero_le _, rfl, hst⟩
  case round =>
    obtain ⟨i, hi, rfl, q1, q2, hS⟩ := hrel
    clear hst
    by_cases h1 : i < 384
    · have hz1 := HTWZ.out
      have d1 : decide (i < TW.size) = true := decide_eq_true (by omega)
      have hiW : i < TW.size := by omega
      have hiN : i < TN.size := by have := HTNZ.out; omega
      have e0 : (0 : Int) ≤ (i : Int) := by omega
      have e1 : (i : Int) < (TW.size : Int) := by omega
      have e2 : (i : Int) < (TN.size : Int) := by omega
      have hqq : (64 : Int) * (k : Int) + (p : Int) = (q : Int) := by have := HQ.out; omega
      have g1 : IntKind.i64.wrap (64 * (k : Int)) = 64 * (k : Int) := IntWalk.i64_in _ (by omega)
      have g2 : IntKind.i64.wrap (64 * (k : Int) + (p : Int)) = (q : Int) := by rw [IntWalk.i64_in _ (by omega)]; exact hqq
      clear hz1
      by_cases hiq : i = q
      · subst hiq
        obtain ⟨t1, t2⟩ := HOT.out hiW hiN
        have g3 : ((i : Int) == (i : Int)) = true := beq_self_eq_true _
        have hx := HX.out
        go_wp2_with fail
        clear hqq
        go_quiet (fail)
        go_wp2_with fail
        exact ⟨⟨i + 1, by omega, by go_num, _, _, hS.below ⟨rfl, rfl, rfl, Nat.le_refl _, fun _ _ => rfl⟩⟩, by simp [intOf]; omega⟩
      · have t1 := HSM.out i hiW hiN hiq
        have g3 : ((i : Int) == (q : Int)) = false := by rw [beq_eq_false_iff_ne]; omega
        have g4 : ((i : Int) != (q : Int)) = true := by rw [bne, g3]; rfl
        go_wp2_with fail
        clear hqq
        go_quiet (fail)
        go_wp2_with fail
        exact ⟨⟨i + 1, by omega, by go_num, _, _, hS.below ⟨rfl, rfl, rfl, Nat.le_refl _, fun _ _ => rfl⟩⟩, by simp [intOf]; omega⟩
    · obtain rfl : i = 384 := by omega
      have d1 : decide (384 < TW.size) = false := decide_eq_false (by rw [HTWZ.out]; omega)
      have d1' : decide ((384 : Int) < (TW.size : Int)) = false := decide_eq_false (by rw [HTWZ.out]; omega)
      go_wp2_with fail
      have hkK1 : k < K1.length := by rw [HK1L.out]; exact hkp
      have hg1 : K1[k] = S.set p b' := by
        have := HK1K.out
        rw [List.getElem?_eq_getElem hkK1] at this
        exact Option.some.inj this
      have hro := rot_ok hS.d1 k hkK1 p m hpp hmm b' (by show K1[k][p]? = _; rw [hg1]; exact HSP.out)
      dsimp only at hro
      rw [hg1, HBB.out, HBK.out] at hro
      have HRO := Lib.hid hro
      have HG1 := Lib.hid hg1
      clear hro hg1
      refine HRO.out.mono ?_
      rintro x v ⟨rfl, hd⟩
      replace hS := hS.do1 hd
      clear hd HRO
      go_wp2_with fail
      refine (HFL.out _).mono ?_
      rintro x v ⟨rfl, hb⟩
      replace hS := hS.below hb
      clear hb
      go_wp2_with fail
      refine (write1 hS.d2 hS.hz k hkK f HFZ.out (by simp)).mono ?_
      rintro x v ⟨rfl, pv2, hd⟩
      replace hS : St w [⟨r1, k1, q1, ⟨K, [], false, 0⟩⟩, ⟨r2, k2, pv2, ⟨K, [(k, f)], false, 0⟩⟩] v := hS.do2 hd
      clear hd
      go_wp2_with fail
      have hro2 := rot_ok hS.d2 k hkK p m hpp hmm b (by show K[k][p]? = _; rw [← HS.out]; exact HB.out)
      dsimp only at hro2
      rw [← HS.out, ← HBX.out, ← HK1.out] at hro2
      have HRO2 := Lib.hid hro2
      clear hro2
      refine HRO2.out.mono ?_
      rintro x v ⟨rfl, hd⟩
      replace hS := hS.do2 hd
      clear hd HRO2
      have hk2 : (layW K1 [(k, f)])[k]'(by rw [layW_length]; exact hkK1) = f := by
        rw [layW_at K1 _ k hkK1]
        exact if_pos rfl
      go_wp2_with fail
      have hr := read1 hS.d2 k hkK1 (by simp)
      rw [hk2] at hr
      have HR := Lib.hid hr
      have HK2 := Lib.hid hk2
      clear hr hk2
      refine HR.out.mono ?_
      rintro x v ⟨rfl, hb⟩
      replace hS := hS.below hb
      clear hb HR
      go_wp2_with fail
      refine (crash1 (hS.alloc _).d2 (hS.alloc _).hz (by simp) _ [0] (by simp) (row_new _ _ hS.hz [0] (by simp)) (by simp) (by simp)).mono ?_
      rintro x v ⟨rfl, hd⟩
      replace hS : St w [⟨r1, k1, _, ⟨K, [], false, 0⟩⟩, ⟨r2, k2, _, ⟨layW K1 [(k, f)], [], false, 0⟩⟩] v := (hS.alloc _).do2 hd
      clear hd
      go_wp2_with fail
      have hr := read1 hS.d2 k (by rw [layW_length]; exact hkK1) (by simp)
      rw [show (layW (layW K1 [(k, f)]) [])[k]'(by rw [layW_length, layW_length]; exact hkK1) = f from HK2.out] at hr
      have HR := Lib.hid hr
      clear hr
      refine HR.out.mono ?_
      rintro x v ⟨rfl, hb⟩
      replace hS := hS.below hb
      clear hb HR
      go_wp2_with fail
      refine (all1 hS.d1 (by simp)).mono ?_
      rintro x v ⟨rfl, hb⟩
      replace hS := hS.below hb
      clear hb
      rw [show (⟨(layW K []).flatten.toArray⟩ : ByteArray) = TW from HTW.out.symm]
      go_wp2_with fail
      refine (HFL.out _).mono ?_
      rintro x v ⟨rfl, hb⟩
      replace hS := hS.below hb
      clear hb
      go_wp2_with fail
      go_ret
      exact ⟨rfl, hS.2⟩
end Go.Proofs.Ytepdncpgcpndoaa

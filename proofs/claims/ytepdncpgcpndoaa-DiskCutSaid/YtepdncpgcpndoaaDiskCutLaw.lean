/- The walk of DiskCut. -/
import Derived.Test.YtepdncpgcpndoaaDiskTwiceLaw
set_option linter.unusedSimpArgs false
set_option linter.unusedVariables false
namespace Go.Proofs.Ytepdncpgcpndoaa
open Go Go.RowKit Wire

theorem pick10 (c : Int) (hc : -9223372036854775808 ≤ c ∧ c ≤ 9223372036854775807) (w : World) :
    Calls Try.prog 17 #[.int .i64 c, .int .i64 10] w fun x w' => x = .returned (.int .i64 (pickOf c 10 : Int)) ∧ w = w' := pick_any c 10 hc (by decide) (by decide) w
theorem writes_min (ps : List Cl) : (writes ps).length = min 8 ps.length := by unfold writes; rw [List.length_map, List.length_take]

section
variable {B r kb : Nat} {W : World} {pv : Value} {k : List (List UInt8)} {p : List (Nat × List UInt8)} {l : Nat}
/-- Write and Sync of a disk whose power is about to go -/
theorem write2 (h : DAt B W r kb pv ⟨k, p, true, l + 1⟩) (hz : B ≤ W.heap.size) (at' : Nat) (ha : at' < k.length) (s : List UInt8) (hs : s.length = 64) (hn : p.length ≤ 100000) :
    Calls Try.prog 21 #[.pointer (some ⟨r, 0, none⟩), .int .i64 (at' : Int), .string ⟨s.toArray⟩] W fun x W' => x = .returned (.int .i64 0) ∧ ∃ pv', Did B W W' r kb pv pv' ⟨k, p ++ [(at', s)], true, l⟩ :=
  write_ok h (.inr (by simp)) hz at' ha ⟨s.toArray⟩ (by show s.toArray.size = 64; rw [List.size_toArray]; exact hs) hn
theorem write3 (h : DAt B W r kb pv ⟨k, p, true, 0⟩) (at' : Nat) (ha : at' < k.length) (s : List UInt8) (hs : s.length = 64) :
    Calls Try.prog 21 #[.pointer (some ⟨r, 0, none⟩), .int .i64 (at' : Int), .string ⟨s.toArray⟩] W fun x W' => x = .returned (.int .i64 22) ∧ W = W' :=
  write_off h rfl rfl at' ha ⟨s.toArray⟩ (by show s.toArray.size = 64; rw [List.size_toArray]; exact hs)
theorem sync2 (h : DAt B W r kb pv ⟨k, p, true, l + 1⟩) (hz : B ≤ W.heap.size) (hn : p.length ≤ 100000) :
    Calls Try.prog 20 #[.pointer (some ⟨r, 0, none⟩)] W fun x W' => x = .returned (.int .i64 0) ∧ Did B W W' r kb pv (.slice none 0 0) ⟨layW k p, [], true, l⟩ :=
  sync_ok h (.inr (by simp)) hz hn
end

set_option maxRecDepth 100000 in
set_option maxHeartbeats 8000000 in
theorem diskCut_walk (b0 : Option Addr) (n0 c0 : Nat) (ss : List Cl) (b1 : Option Addr) (n1 c1 : Nat) (ps : List Cl) (n' : Int) (b2 : Option Addr) (n2 c2 : Nat) (ks : List Int) (w : World)
    (hn0 : ss.length = n0) (_ : n0 ≤ c0) (_ : c0 ≤ maxLen) (hs : Lies w (.slice b0 n0 c0) n0 6 (ss.flatMap Cl.cells)) (hsg : ∀ c ∈ ss, c.good)
    (hn1 : ps.length = n1) (hc1 : n1 ≤ c1) (hm1 : c1 ≤ maxLen) (hp : Lies w (.slice b1 n1 c1) n1 6 (ps.flatMap Cl.cells)) (hpg : ∀ c ∈ ps, c.good)
    (hn' : -9223372036854775808 ≤ n' ∧ n' ≤ 9223372036854775807)
    (hn2 : ks.length = n2) (hc2 : n2 ≤ c2) (hm2 : c2 ≤ maxLen) (hk : Lies w (.slice b2 n2 c2) n2 1 (ks.map (Value.int .i64))) (hkg : ∀ x ∈ ks, -9223372036854775808 ≤ x ∧ x ≤ 9223372036854775807) :
    Calls Try.prog 7 #[.slice b0 n0 c0, .slice b1 n1 c1, .int .i64 n', .slice b2 n2 c2] w fun x w' => x = .returned (.bool true) ∧ Below w.heap.size w w' := by
  subst hn0 hn1 hn2
  have hG : ∀ (W : World) (L : List Dk), St w L W → Calls Try.prog 12 #[.slice b0 ss.length c0, .slice none 0 0] W fun x W' => ∃ r kb qv, x = .returned (.pointer (some ⟨r, 0, none⟩)) ∧ St w (L ++ [⟨r, kb, qv, ⟨layW (zeros 6).kept (writes ss), [], false, 0⟩⟩]) W' := fun W L h => fill0 h _ ss hs hsg
  have hKP : ∀ (W : World) (L : List Dk) (m : Nat), m ≤ 100000 → St w L W → Calls Try.prog 14 #[.slice b2 ks.length c2, .int .i64 (m : Int)] W fun x W' => ∃ v, x = .returned v ∧ W'.ownsRow w.heap.size 3 1 v (keepOf ks m).length (ints (keepOf ks m)) ∧ St w L W' := fun W L m hm h => keep1 h _ ks (Nat.le_trans hc2 hm2) hk hkg m hm
  have hel : ∀ (X : World) (L : List Dk), St w L X → ∀ i (hi : i < ps.length), ∃ b off, b1 = some ⟨b, off, none⟩ ∧ X.cell? ⟨b, off + i * 6 + 1, none⟩ = some (.int .i64 ps[i].at') ∧ X.cell? ⟨b, off + i * 6 + 2, none⟩ = some (.string ps[i].s) := fun X L hX i hi => by
    obtain ⟨b, off, c, hv, hbl, hc⟩ := hp.elem (fun _ _ => rfl) hX.2 hi
    simp at hv
    exact ⟨b, off, hv.1, hc 1 _ rfl, hc 2 _ rfl⟩
  have hpl := writes_len ps
  have hpm := writes_min ps
  have hwa := writes_at ps
  have hkl : (layW (zeros 6).kept (writes ss)).length = 6 := layW_length _ _
  generalize layW (zeros 6).kept (writes ss) = K at hG hkl
  generalize writes ps = P at hpl hpm hwa
  have hmin : (if (8 : Int) < (ps.length : Int) then (8 : Int) else (ps.length : Int)) = (P.length : Int) := by split <;> omega
  have hPp : P.length ≤ ps.length := by omega
  have hlt := keepOf_lt ks
  have hnd := keepOf_nodup ks
  have hlen := keepOf_len ks
  have hkk := pickOf_lt n' (n := 10) (by decide)
  have hpk := pick10 n' hn'
  generalize pickOf n' 10 = kk at hkk hpk
  have hlm : ps.length ≤ maxLen := Nat.le_trans hc1 hm1
  unfold maxLen at hlm
  have HG := Lib.hid hG
  have HKP := Lib.hid hKP
  have HEL := Lib.hid hel
  have HPG := Lib.hid hpg
  have HWA := Lib.hid hwa
  have HKL := Lib.hid hkl
  have HLT := Lib.hid hlt
  have HND := Lib.hid hnd
  have HLN := Lib.hid hlen
  have HPK := Lib.hid hpk
  clear hG hKP hs hp hk hsg hpg hkg hel hwa hkl hlt hnd hlen hpk hpm hn'
  have h0 := St.nil w
  go_enter Try.func7, Try.ntmps7
  go_wp2_with fail
  refine (awake_any w).mono ?_
  rintro x w1 ⟨rfl, hb⟩
  have hS := h0.below hb
  clear h0 hb
  go_wp2_with fail
  refine (HG.out _ _ hS).mono ?_
  rintro x w2 ⟨r1, k1, q1, rfl, hS⟩
  go_wp2_with fail
  refine (HG.out _ _ hS).mono ?_
  rintro x w3 ⟨r2, k2, q2, rfl, hS⟩
  replace hS : St w [⟨r1, k1, q1, ⟨K, [], false, 0⟩⟩, ⟨r2, k2, q2, ⟨K, [], false, 0⟩⟩] w3 := hS
  go_wp2_with fail
  refine (HPK.out _).mono ?_
  rintro x v' ⟨rfl, rfl⟩
  go_wp2_with fail
  refine (cutd_ok hS.d1 kk (by omega)).mono ?_
  rintro x w4 ⟨rfl, hd⟩
  replace hS := hS.do1 hd
  clear hd
  have hst : ∃ q1 q2, St w [⟨r1, k1, q1, ⟨K, P.take (min 0 kk), true, kk - min 0 kk⟩⟩, ⟨r2, k2, q2, ⟨K, P.take (min 0 kk), false, 0⟩⟩] w4 := ⟨q1, q2, by rw [Nat.zero_min]; exact hS⟩
  clear hS
  go_wp2_with fail
  clear hmin
  go_loopw [15] (fun iv wr => ∃ i : Nat, i ≤ P.length ∧ iv = .int .i64 (i : Int) ∧ (∃ q1 q2, St w [⟨r1, k1, q1, ⟨K, P.take (min i kk), true, kk - min i kk⟩⟩, ⟨r2, k2, q2, ⟨K, P.take (min i kk), false, 0⟩⟩] wr)) (fun iv _ => P.length - (intOf iv).toNat)
  case atStart => exact ⟨0, Nat.zero_le _, rfl, hst⟩
  case round =>
    obtain ⟨i, hi, rfl, ⟨q1, q2, hS⟩⟩ := hrel
    clear hst
    by_cases h1 : i < P.length
    · have d1 : decide (i < P.length) = true := decide_eq_true h1
      obtain ⟨b, off, hv, c1, c2⟩ := HEL.out wr _ hS i (by omega)
      subst hv
      have hg := HPG.out (ps[i]'(by omega)) (List.getElem_mem _)
      have hwa := HWA.out i h1 (by omega)
      have htk := List.take_succ_eq_append_getElem h1
      rw [hwa] at htk
      have hil : i < ps.length := by omega
      have hcs : ∀ (X : World) (L : List Dk), St w L X → X.cell? ⟨b, off + i * 6 + 2, none⟩ = some (.string ps[i].s) := fun X L hX => by
        obtain ⟨b', off', hv, _, h⟩ := HEL.out X _ hX i hil
        simp at hv
        obtain ⟨rfl, rfl⟩ := hv
        exact h
      clear hwa
      generalize ps[i] = c at c1 c2 hg htk hcs
      obtain ⟨kind, at', s, place, mask, keep⟩ := c
      have hga := hg.at'
      have hgs := hg.s
      dsimp only at c1 c2 hga hgs hcs
      have hw : (⟨kind, at', s, place, mask, keep⟩ : Cl).write = (pickOf at' 6, fullOf s.data.toList) := rfl
      rw [hw] at htk
      have hpk := pickOf_lt at' (n := 6) (by decide)
      have hp6 := pick6 at' hga
      have hfl := full_any s hgs
      have hfz := fullOf_length s.data.toList
      generalize pickOf at' 6 = a at hpk hp6 htk
      generalize fullOf s.data.toList = f at hfl hfz htk
      have HP6 := Lib.hid hp6
      have HFL := Lib.hid hfl
      have HFZ := Lib.hid hfz
      have HTK := Lib.hid htk
      have HCS := Lib.hid hcs
      clear hp6 hfl hfz htk hg hw hcs
      have e0 : (0 : Int) ≤ (i : Int) := by omega
      have e1 : (i : Int) < (ps.length : Int) := by omega
      by_cases hik : i < kk
      · have d2 : decide (i < kk) = true := decide_eq_true hik
        obtain ⟨j, hj⟩ : ∃ j, kk - i = j + 1 := ⟨kk - i - 1, by omega⟩
        rw [show min i kk = i from by omega, hj] at hS
        have HJ := Lib.hid hj
        clear hj
        have hpt : (P.take i).length ≤ 100000 := by rw [List.length_take]; omega
        go_wp2_with fail
        refine (HP6.out _).mono ?_
        rintro x v ⟨rfl, rfl⟩
        clear c1
        go_wp2_with fail
        refine (HFL.out _).mono ?_
        rintro x v ⟨rfl, hb⟩
        replace hS := hS.below hb
        clear hb c2
        go_wp2_with fail
        refine (write2 hS.d1 hS.hz a (by rw [HKL.out]; exact hpk) f HFZ.out hpt).mono ?_
        rintro x v2 ⟨rfl, pv2, hd⟩
        rw [← HTK.out] at hd
        replace hS := hS.do1 hd
        clear hd
        have c2 := HCS.out v2 _ hS
        go_wp2_with fail
        refine (HFL.out _).mono ?_
        rintro x v3 ⟨rfl, hb⟩
        replace hS := hS.below hb
        clear hb c2
        go_wp2_with fail
        refine (write1 hS.d2 hS.hz a (by rw [HKL.out]; exact hpk) f HFZ.out hpt).mono ?_
        rintro x v4 ⟨rfl, pv4, hd⟩
        rw [← HTK.out] at hd
        replace hS := hS.do2 hd
        clear hd
        go_wp2_with fail
        exact ⟨⟨i + 1, by omega, by go_num, _, _, by rw [show min (i + 1) kk = i + 1 from by omega, show kk - (i + 1) = j from by have := HJ.out; omega]; exact hS⟩, by simp [intOf]; omega⟩
      · have d2 : decide (i < kk) = false := decide_eq_false hik
        rw [show min i kk = kk from by omega, show kk - kk = 0 from by omega] at hS
        go_wp2_with fail
        refine (HP6.out _).mono ?_
        rintro x v ⟨rfl, rfl⟩
        clear c1
        go_wp2_with fail
        refine (HFL.out _).mono ?_
        rintro x v ⟨rfl, hb⟩
        replace hS := hS.below hb
        clear hb c2
        go_wp2_with fail
        refine (write3 hS.d1 a (by rw [HKL.out]; exact hpk) f HFZ.out).mono ?_
        rintro x v2 ⟨rfl, rfl⟩
        go_wp2_with fail
        exact ⟨⟨i + 1, by omega, by go_num, _, _, by rw [show min (i + 1) kk = kk from by omega, show kk - kk = 0 from by omega]; exact hS⟩, by simp [intOf]; omega⟩
    · obtain rfl : i = P.length := by omega
      have d1 : decide (P.length < P.length) = false := decide_eq_false h1
      have hcs : P.length < kk ∨ ¬ P.length < kk := by omega
      rcases hcs with hik | hik
      have d2 : decide (P.length < kk) = true := decide_eq_true hik
      obtain ⟨j, hj⟩ : ∃ j, kk - P.length = j + 1 := ⟨kk - P.length - 1, by omega⟩
      rw [show min P.length kk = P.length from by omega, hj, List.take_of_length_le (Nat.le_refl _)] at hS
      clear hj
      go_wp2_with fail
      refine (sync2 hS.d1 hS.hz (by omega)).mono ?_
      rintro x v ⟨rfl, hd⟩
      replace hS := hS.do1 hd
      clear hd
      go_wp2_with fail
      refine (sync1 hS.d2 hS.hz (by omega)).mono ?_
      rintro x v2 ⟨rfl, hd⟩
      replace hS := hS.do2 hd
      clear hd
      obtain ⟨K', P', lf, q1, q2, hK', hP', hS⟩ : ∃ (K' : List (List UInt8)) (P' : List (Nat × List UInt8)) (lf : Nat) (q1 q2 : Value), K'.length = 6 ∧ P'.length ≤ 8 ∧ St w [⟨r1, k1, q1, ⟨K', P', true, lf⟩⟩, ⟨r2, k2, q2, ⟨K', P', false, 0⟩⟩] v2 := ⟨_, _, _, _, _, by rw [layW_length]; exact HKL.out, by simp, hS⟩
      have HK' := Lib.hid hK'
      clear hK'
      go_wp2_with fail
      rotate_left
      have d2 : decide (P.length < kk) = false := decide_eq_false hik
      rw [show min P.length kk = kk from by omega, show kk - kk = 0 from by omega] at hS
      go_wp2_with fail
      refine (sync_off hS.d1 rfl rfl).mono ?_
      rintro x v ⟨rfl, rfl⟩
      obtain ⟨K', P', lf, q1, q2, hK', hP', hS⟩ : ∃ (K' : List (List UInt8)) (P' : List (Nat × List UInt8)) (lf : Nat) (q1 q2 : Value), K'.length = 6 ∧ P'.length ≤ 8 ∧ St w [⟨r1, k1, q1, ⟨K', P', true, lf⟩⟩, ⟨r2, k2, q2, ⟨K', P', false, 0⟩⟩] wr := ⟨_, _, _, _, _, HKL.out, by rw [List.length_take]; omega, hS⟩
      have HK' := Lib.hid hK'
      clear hK'
      go_wp2_with fail
      all_goals
        refine (all1 hS.d1 (by omega)).mono ?_
        rintro x v ⟨rfl, hb⟩
        replace hS := hS.below hb
        clear hb
        obtain ⟨T, hT⟩ : ∃ T : ByteArray, T = ⟨(layW K' P').flatten.toArray⟩ := ⟨_, rfl⟩
        rw [← hT]
        have HT := Lib.hid hT
        clear hT
        go_wp2_with fail
        refine (all1 hS.d2 (by omega)).mono ?_
        rintro x v ⟨rfl, hb⟩
        replace hS := hS.below hb
        clear hb
        rw [← HT.out]
        go_wp2_with fail
        refine (pending_any hS.d1).mono ?_
        rintro x v ⟨rfl, rfl⟩
        go_wp2_with fail
        refine (pending_any hS.d2).mono ?_
        rintro x v ⟨rfl, rfl⟩
        go_wp2_with fail
        refine (pending_any hS.d2).mono ?_
        rintro x v ⟨rfl, rfl⟩
        go_wp2_with fail
        refine (HKP.out _ _ P'.length (by omega) hS).mono ?_
        rintro x v ⟨kv, rfl, hown, hS⟩
        have hlt := HLT.out P'.length
        have hnd := HND.out P'.length
        have hlen := HLN.out P'.length
        generalize keepOf ks P'.length = KL at hown hlt hnd hlen
        have HLT' := Lib.hid hlt
        have HND' := Lib.hid hnd
        clear hlt hnd
        go_wp2_with fail
        refine (crash1 hS.d1 hS.hz (by omega) _ KL (by omega) hown HLT'.out HND'.out).mono ?_
        rintro x v ⟨rfl, hd⟩
        replace hown := hd.row hS.d1 hown
        replace hS := hS.do1 hd
        clear hd
        go_wp2_with fail
        refine (crash1 hS.d2 hS.hz (by omega) _ KL (by omega) hown HLT'.out HND'.out).mono ?_
        rintro x v ⟨rfl, hd⟩
        replace hS := hS.do2 hd
        clear hd hown
        have hK6 : (layW K' (KL.filterMap fun x => P'[x]?)).length = 6 := by rw [layW_length]; exact HK'.out
        generalize layW K' (KL.filterMap fun x => P'[x]?) = K2 at hS hK6
        have HK6 := Lib.hid hK6
        clear hK6
        go_wp2_with fail
        refine (all1 hS.d1 (by simp)).mono ?_
        rintro x v ⟨rfl, hb⟩
        replace hS := hS.below hb
        clear hb
        go_wp2_with fail
        refine (all1 hS.d2 (by simp)).mono ?_
        rintro x v ⟨rfl, hb⟩
        replace hS := hS.below hb
        clear hb
        go_wp2_with fail
        refine (full_any ⟨#[122]⟩ (by decide) _).mono ?_
        rintro x v ⟨rfl, hb⟩
        replace hS := hS.below hb
        clear hb
        go_wp2_with fail
        refine (write1 hS.d1 hS.hz 0 (by rw [HK6.out]; decide) _ (fullOf_length _) (by simp)).mono ?_
        rintro x v ⟨rfl, pv5, hd⟩
        replace hS := hS.do1 hd
        clear hd
        go_wp2_with fail
        refine (sync1 hS.d1 hS.hz (by simp)).mono ?_
        rintro x v ⟨rfl, hd⟩
        replace hS := hS.do1 hd
        clear hd
        go_wp2_with fail
        go_ret
        exact ⟨rfl, hS.2⟩
end Go.Proofs.Ytepdncpgcpndoaa

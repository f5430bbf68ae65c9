/- The walk of DiskSynced. -/
import Derived.Test.YtepdncpgcpndoaaDiskAwake
import Derived.Test.YtepdncpgcpndoaaDiskFacts
set_option linter.unusedSimpArgs false
set_option linter.unusedVariables false
namespace Wire
/-- is it what it was, or one of the first i writes? -/
def okTo (s t : List UInt8) (a : Nat) (ps : List Cl) (i : Nat) : Bool := (s == t) || (ps.take i).any fun c => c.write.1 == a && s == c.write.2
theorem okTo_zero (s t : List UInt8) (a : Nat) (ps : List Cl) : okTo s t a ps 0 = (s == t) := by simp [okTo]
theorem okTo_succ (s t : List UInt8) (a : Nat) (ps : List Cl) (i : Nat) (h : i < ps.length) : okTo s t a ps (i + 1) = (okTo s t a ps i || (ps[i].write.1 == a && s == ps[i].write.2)) := by
  unfold okTo
  rw [List.take_succ_eq_append_getElem h, List.any_append, ← Bool.or_assoc]
  simp
theorem okTo_end (K : List UInt8) (C : List (Nat × List UInt8)) (a : Nat) (ps : List Cl) (hC : ∀ p ∈ C, p ∈ writes ps) (i : Nat) (hi : i = 8 ∨ ps.length ≤ i) : okTo (lastOf K C a) K a ps i = true := by
  unfold okTo
  rcases lastOf_cases K C a with h | ⟨p, hp, h1, h2⟩
  · rw [h]; simp
  · have hp' := hC p hp
    unfold writes at hp'
    obtain ⟨c, hc, rfl⟩ := List.mem_map.1 hp'
    rw [Bool.or_eq_true, List.any_eq_true]
    refine .inr ⟨c, ?_, ?_⟩
    · rcases hi with rfl | hi
      · exact hc
      · rw [List.take_of_length_le hi]; exact List.mem_of_mem_take hc
    · rw [h2, h1]; simp
end Wire
namespace Go.Proofs.Ytepdncpgcpndoaa
open Go Go.RowKit Wire

set_option maxRecDepth 100000 in
set_option maxHeartbeats 8000000 in
theorem diskSynced_walk (b0 : Option Addr) (n0 c0 : Nat) (ss : List Cl) (b1 : Option Addr) (n1 c1 : Nat) (ps : List Cl) (b2 : Option Addr) (n2 c2 : Nat) (ks : List Int) (w : World)
    (hn0 : ss.length = n0) (_ : n0 ≤ c0) (_ : c0 ≤ maxLen) (hs : Lies w (.slice b0 n0 c0) n0 6 (ss.flatMap Cl.cells)) (hsg : ∀ c ∈ ss, c.good)
    (hn1 : ps.length = n1) (_ : n1 ≤ c1) (_ : c1 ≤ maxLen) (hp : Lies w (.slice b1 n1 c1) n1 6 (ps.flatMap Cl.cells)) (hpg : ∀ c ∈ ps, c.good)
    (hn2 : ks.length = n2) (hc2 : n2 ≤ c2) (hm2 : c2 ≤ maxLen) (hk : Lies w (.slice b2 n2 c2) n2 1 (ks.map (Value.int .i64))) (hkg : ∀ x ∈ ks, -9223372036854775808 ≤ x ∧ x ≤ 9223372036854775807) :
    Calls Try.prog 3 #[.slice b0 n0 c0, .slice b1 n1 c1, .slice b2 n2 c2] w fun x w' => x = .returned (.bool true) ∧ Below w.heap.size w w' := by
  subst hn0 hn1 hn2
  have hF : ∀ W L, St w L W → Calls Try.prog 12 #[.slice b0 ss.length c0, .slice b1 ps.length c1] W fun x W' => ∃ r kb qv, x = .returned (.pointer (some ⟨r, 0, none⟩)) ∧ St w (L ++ [⟨r, kb, qv, ⟨layW (zeros 6).kept (writes ss), writes ps, false, 0⟩⟩]) W' := fun W L h => fill1 h _ _ ss ps hs hp hsg hpg
  have hG : ∀ W L, St w L W → Calls Try.prog 12 #[.slice b0 ss.length c0, .slice none 0 0] W fun x W' => ∃ r kb qv, x = .returned (.pointer (some ⟨r, 0, none⟩)) ∧ St w (L ++ [⟨r, kb, qv, ⟨layW (zeros 6).kept (writes ss), [], false, 0⟩⟩]) W' := fun W L h => fill0 h _ ss hs hsg
  have hKP : ∀ (W : World) (L : List Dk) (m : Nat), m ≤ 100000 → St w L W → Calls Try.prog 14 #[.slice b2 ks.length c2, .int .i64 (m : Int)] W fun x W' => ∃ v, x = .returned v ∧ W'.ownsRow w.heap.size 3 1 v (keepOf ks m).length (ints (keepOf ks m)) ∧ St w L W' := fun W L m hm h => keep1 h _ ks (Nat.le_trans hc2 hm2) hk hkg m hm
  have hel : ∀ X L, St w L X → ∀ i (hi : i < ps.length), ∃ b off, b1 = some ⟨b, off, none⟩ ∧ X.cell? ⟨b, off + i * 6 + 1, none⟩ = some (.int .i64 ps[i].at') ∧ X.cell? ⟨b, off + i * 6 + 2, none⟩ = some (.string ps[i].s) := fun X L hX i hi => by
    obtain ⟨b, off, c, hv, _, hc⟩ := hp.elem (fun _ _ => rfl) hX.2 hi
    simp at hv
    exact ⟨b, off, hv.1, hc 1 _ rfl, hc 2 _ rfl⟩
  have hpl := writes_len ps
  have hkl : (layW (zeros 6).kept (writes ss)).length = 6 := layW_length _ _
  generalize layW (zeros 6).kept (writes ss) = K at hF hG hkl
  obtain ⟨P, hP⟩ : ∃ P, P = writes ps := ⟨_, rfl⟩
  rw [← hP] at hF hpl
  have hlt := keepOf_lt ks P.length
  have hnd := keepOf_nodup ks P.length
  have hlen := keepOf_len ks P.length
  have HF := Lib.hid hF
  have HG := Lib.hid hG
  have HKP := Lib.hid hKP
  have HEL := Lib.hid hel
  have HPG := Lib.hid hpg
  have HP := Lib.hid hP
  have HKL := Lib.hid hkl
  have HLT := Lib.hid hlt
  have HND := Lib.hid hnd
  clear hF hG hKP hs hp hk hsg hpg hkg hel hP hkl hlt hnd
  have h0 := St.nil w
  go_enter Try.func3, Try.ntmps3
  go_wp2_with fail
  refine (awake_any w).mono ?_
  rintro x w1 ⟨rfl, hb⟩
  have hS := h0.below hb
  clear h0 hb
  go_wp2_with fail
  refine (HF.out _ _ hS).mono ?_
  rintro x w2 ⟨r1, k1, q1, rfl, hS⟩
  go_wp2_with fail
  refine (HG.out _ _ hS).mono ?_
  rintro x w3 ⟨r2, k2, q2, rfl, hS⟩
  replace hS : St w [⟨r1, k1, q1, ⟨K, P, false, 0⟩⟩, ⟨r2, k2, q2, ⟨K, [], false, 0⟩⟩] w3 := hS
  go_wp2_with fail
  refine (pending_any hS.d1).mono ?_
  rintro x v' ⟨rfl, rfl⟩
  dsimp only
  go_wp2_with fail
  refine (HKP.out _ _ P.length (by omega) hS).mono ?_
  rintro x w4 ⟨kv, rfl, hown, hS⟩
  go_wp2_with fail
  refine (crash1 hS.d1 hS.hz (by omega) _ (keepOf ks P.length) (by omega) hown HLT.out HND.out).mono ?_
  rintro x w5 ⟨rfl, hd⟩
  replace hS := hS.do1 hd
  clear hd hown
  have hC : ∀ p ∈ (keepOf ks P.length).filterMap (fun x => P[x]?), p ∈ writes ps := fun p hp => by
    obtain ⟨i, _, hi⟩ := List.mem_filterMap.1 hp
    rw [← HP.out]; exact List.mem_of_getElem? hi
  generalize (keepOf ks P.length).filterMap (fun x => P[x]?) = C at hS hC
  have HC := Lib.hid hC
  have hst : ∃ q1 q2, St w [⟨r1, k1, q1, ⟨layW K C, [], false, 0⟩⟩, ⟨r2, k2, q2, ⟨K, [], false, 0⟩⟩] w5 := ⟨_, _, hS⟩
  clear hC hS
  go_wp2_with fail
  go_loopw [11] (fun i wr => ∃ k : Nat, k ≤ 6 ∧ i = .int .i64 (k : Int) ∧ ∃ q1 q2, St w [⟨r1, k1, q1, ⟨layW K C, [], false, 0⟩⟩, ⟨r2, k2, q2, ⟨K, [], false, 0⟩⟩] wr) (fun i _ => 6 - (intOf i).toNat)
  case atStart => exact ⟨0, Nat.zero_le _, rfl, hst⟩
  case round =>
    obtain ⟨k, hk, rfl, q1, q2, hS⟩ := hrel
    clear hst
    by_cases hlt : k < 6
    · have d1 : decide ((k : Int) < 6) = true := decide_eq_true (by omega)
      have hr1 := read1 hS.d1 k (by rw [layW_length, HKL.out]; exact hlt) (by simp)
      have hkt : (layW K C)[k]'(by rw [layW_length, HKL.out]; exact hlt) = lastOf (K[k]'(by rw [HKL.out]; exact hlt)) C k := layW_at K C k (by rw [HKL.out]; exact hlt)
      have hr1' : Calls Try.prog 16 #[.pointer (some ⟨r1, 0, none⟩), .int .i64 (k : Int)] wr fun x W' => x = .returned (.tuple #[.string ⟨(lastOf (K[k]'(by rw [HKL.out]; exact hlt)) C k).toArray⟩, .int .i64 0]) ∧ Below wr.heap.size wr W' := by
        rw [← hkt]; exact hr1
      have hr2 : ∀ W, St w [⟨r1, k1, q1, ⟨layW K C, [], false, 0⟩⟩, ⟨r2, k2, q2, ⟨K, [], false, 0⟩⟩] W → Calls Try.prog 16 #[.pointer (some ⟨r2, 0, none⟩), .int .i64 (k : Int)] W fun x W' => x = .returned (.tuple #[.string ⟨(K[k]'(by rw [HKL.out]; exact hlt)).toArray⟩, .int .i64 0]) ∧ Below W.heap.size W W' := fun W hW => read1 hW.d2 k (by rw [HKL.out]; exact hlt) (by simp)
      have hend := okTo_end (K[k]'(by rw [HKL.out]; exact hlt)) C k ps HC.out
      clear hr1 hkt
      generalize K[k]'(by rw [HKL.out]; exact hlt) = t at hr1' hr2 hend
      generalize lastOf t C k = s at hr1' hend
      have HR1 := Lib.hid hr1'
      have HR2 := Lib.hid hr2
      have HEN := Lib.hid hend
      clear hr1' hr2 hend
      go_wp2_with fail
      refine HR1.out.mono ?_
      rintro x w6 ⟨rfl, hb⟩
      replace hS := hS.below hb
      clear hb
      go_wp2_with fail
      refine (HR2.out _ hS).mono ?_
      rintro x w7 ⟨rfl, hb⟩
      replace hS := hS.below hb
      clear hb
      go_wp2_with fail
      have hst : ∃ q1 q2, St w [⟨r1, k1, q1, ⟨layW K C, [], false, 0⟩⟩, ⟨r2, k2, q2, ⟨K, [], false, 0⟩⟩] w7 := ⟨_, _, hS⟩
      clear hS
      go_loopw [16, 17] (fun ov iv wr => ∃ i : Nat, i ≤ ps.length ∧ i ≤ 8 ∧ iv = .int .i64 (i : Int) ∧ ov = .bool (okTo s t k ps i) ∧ ∃ q1 q2, St w [⟨r1, k1, q1, ⟨layW K C, [], false, 0⟩⟩, ⟨r2, k2, q2, ⟨K, [], false, 0⟩⟩] wr) (fun _ iv _ => 8 - (intOf iv).toNat)
      case atStart => exact ⟨0, Nat.zero_le _, Nat.zero_le _, rfl, by rw [okTo_zero], hst⟩
      case round =>
        obtain ⟨i, hi, hi8, rfl, rfl, q1, q2, hS⟩ := hrel
        clear hst
        by_cases hgo : i < ps.length ∧ i < 8
        · obtain ⟨h1, h2⟩ := hgo
          have d2 : decide (i < ps.length) = true := decide_eq_true h1
          have d3 : decide ((i : Int) < 8) = true := decide_eq_true (by omega)
          have hsu := okTo_succ s t k ps i h1
          generalize okTo s t k ps i = o at hsu ⊢
          cases o with
          | true =>
            rw [Bool.true_or] at hsu
            have HSU := Lib.hid hsu
            clear hsu
            go_wp2_with fail
            exact ⟨⟨i + 1, by omega, by omega, by go_num, by rw [HSU.out], _, _, hS⟩, by simp [intOf]; omega⟩
          | false =>
            rw [Bool.false_or] at hsu
            obtain ⟨b, off, hv, c1, c2⟩ := HEL.out wr _ hS i h1
            subst hv
            have hg := HPG.out ps[i] (List.getElem_mem _)
            generalize ps[i] = c at hsu c1 c2 hg
            have hga := hg.at'
            have hgs := hg.s
            have e0 : (0 : Int) ≤ (i : Int) := by omega
            have e1 : (i : Int) < (ps.length : Int) := by omega
            have hpk := pick6 c.at' hga wr
            have hfl := full_any c.s hgs wr
            have w1e : c.write.1 = pickOf c.at' 6 := rfl
            have w2e : c.write.2 = fullOf c.s.data.toList := rfl
            rw [w1e, w2e] at hsu
            generalize fullOf c.s.data.toList = f at hsu hfl
            generalize pickOf c.at' 6 = a at hsu hpk
            have HPK := Lib.hid hpk
            have HFL := Lib.hid hfl
            clear hpk hfl w1e w2e hg
            by_cases ha : a = k
            · have d4 : ((a : Int) == (k : Int)) = true := by rw [beq_iff_eq]; omega
              rw [show (a == k) = true from beq_iff_eq.2 ha, Bool.true_and] at hsu
              have HSU := Lib.hid hsu
              clear hsu
              go_wp2_with fail
              refine HPK.out.mono ?_
              rintro x v ⟨rfl, rfl⟩
              go_wp2_with fail
              refine HFL.out.mono ?_
              rintro x v ⟨rfl, hb⟩
              replace hS := hS.below hb
              clear hb
              go_wp2_with fail
              exact ⟨⟨i + 1, by omega, by omega, by go_num, by rw [HSU.out], _, _, hS⟩, by simp [intOf]; omega⟩
            · have d4 : ((a : Int) == (k : Int)) = false := by rw [beq_eq_false_iff_ne]; omega
              rw [show (a == k) = false from beq_eq_false_iff_ne.2 ha, Bool.false_and] at hsu
              have HSU := Lib.hid hsu
              clear hsu
              go_wp2_with fail
              refine HPK.out.mono ?_
              rintro x v ⟨rfl, rfl⟩
              go_wp2_with fail
              exact ⟨⟨i + 1, by omega, by omega, by go_num, by rw [HSU.out], _, _, hS⟩, by simp [intOf]; omega⟩
        · rw [HEN.out i (by omega)]
          have hgo2 : (i < ps.length ∧ i = 8) ∨ ¬ i < ps.length := by omega
          rcases hgo2 with ⟨h1, rfl⟩ | h1
          · have d2 : decide (8 < ps.length) = true := decide_eq_true h1
            go_wp2_with fail
            exact ⟨⟨k + 1, by omega, by go_num, _, _, hS⟩, by simp [intOf]; omega⟩
          · have d2 : decide (i < ps.length) = false := decide_eq_false h1
            go_wp2_with fail
            exact ⟨⟨k + 1, by omega, by go_num, _, _, hS⟩, by simp [intOf]; omega⟩
    · obtain rfl : k = 6 := by omega
      go_wp2_with fail
      refine (pending_any hS.d1).mono ?_
      rintro x v' ⟨rfl, rfl⟩
      go_wp2_with fail
      go_ret
      exact ⟨rfl, hS.2⟩
end Go.Proofs.Ytepdncpgcpndoaa

/- The walk of DiskTwice. -/
import Derived.Test.YtepdncpgcpndoaaDiskAwake
import Derived.Test.YtepdncpgcpndoaaDiskFacts
set_option linter.unusedSimpArgs false
set_option linter.unusedVariables false
namespace Go.Proofs.Ytepdncpgcpndoaa
open Go Go.RowKit Wire

/-- the writes that are kept, of the first i -/
def keptOf (P : List (Nat × List UInt8)) (KL : List Nat) (i : Nat) : List (Nat × List UInt8) := (KL.take i).filterMap fun x => P[x]?
theorem keptOf_zero (P : List (Nat × List UInt8)) (KL : List Nat) : keptOf P KL 0 = [] := rfl
theorem keptOf_succ (P : List (Nat × List UInt8)) (KL : List Nat) (i : Nat) (h : i < KL.length) (h2 : KL[i] < P.length) : keptOf P KL (i + 1) = keptOf P KL i ++ [P[KL[i]]] := by
  unfold keptOf
  rw [List.take_succ_eq_append_getElem h, List.filterMap_append]
  simp [List.getElem?_eq_getElem h2]
theorem keptOf_end (P : List (Nat × List UInt8)) (KL : List Nat) : keptOf P KL KL.length = KL.filterMap fun x => P[x]? := by
  unfold keptOf; rw [List.take_of_length_le (Nat.le_refl _)]
theorem keptOf_len (P : List (Nat × List UInt8)) (KL : List Nat) (i : Nat) : (keptOf P KL i).length ≤ i := by
  unfold keptOf
  exact Nat.le_trans (List.length_filterMap_le _ _) (by rw [List.length_take]; omega)
theorem writes_at (ps : List Cl) (m : Nat) (h : m < (writes ps).length) (h2 : m < ps.length) : (writes ps)[m] = ps[m].write := by
  have h8 := writes_len ps
  have e : (writes ps)[m]? = some ps[m].write := by
    unfold writes
    rw [List.getElem?_map, List.getElem?_take, if_pos (by omega), List.getElem?_eq_getElem h2]
    rfl
  rw [List.getElem?_eq_getElem h] at e
  exact Option.some.inj e
theorem writes_le (ps : List Cl) : (writes ps).length ≤ ps.length := by unfold writes; rw [List.length_map, List.length_take]; omega

theorem cell_keep {W W1 : World} {b o : Nat} {v : Value} (hb : Below W.heap.size W W1) (h : W.cell? ⟨b, o, none⟩ = some v) : W1.cell? ⟨b, o, none⟩ = some v :=
  (hb.cell (p := ⟨b, o, none⟩) (World.block_lt_of_cell? _ _ h)).trans h
theorem cells3 {W W1 : World} {b1 o1 b2 o2 b3 o3 : Nat} {v1 v2 v3 : Value} (hb : Below W.heap.size W W1) (h : W.cell? ⟨b1, o1, none⟩ = some v1 ∧ W.cell? ⟨b2, o2, none⟩ = some v2 ∧ W.cell? ⟨b3, o3, none⟩ = some v3) : W1.cell? ⟨b1, o1, none⟩ = some v1 ∧ W1.cell? ⟨b2, o2, none⟩ = some v2 ∧ W1.cell? ⟨b3, o3, none⟩ = some v3 :=
  ⟨cell_keep hb h.1, cell_keep hb h.2.1, cell_keep hb h.2.2⟩
/-- a row of whole numbers is none of a disk's blocks -/
theorem Did.row {B r kb : Nat} {W W' : World} {pv pv' v : Value} {d d' : DS} {b n : Nat} {xs : List Value} (h : Did B W W' r kb pv pv' d') (h0 : DAt B W r kb pv d) (ho : W.ownsRow b 3 1 v n xs) : W'.ownsRow b 3 1 v n xs := by
  refine ⟨ho.1, ?_⟩
  rcases ho.2 with hv | ⟨g, cap, cur, hv, hg, hc, r⟩
  · exact .inl hv
  · exact .inr ⟨g, cap, cur, hv, hg, h.foreign h0 hc (by decide), r⟩

set_option maxRecDepth 100000 in
set_option maxHeartbeats 8000000 in
theorem diskTwice_walk (b0 : Option Addr) (n0 c0 : Nat) (ss : List Cl) (b1 : Option Addr) (n1 c1 : Nat) (ps : List Cl) (b2 : Option Addr) (n2 c2 : Nat) (ks : List Int) (w : World)
    (hn0 : ss.length = n0) (_ : n0 ≤ c0) (_ : c0 ≤ maxLen) (hs : Lies w (.slice b0 n0 c0) n0 6 (ss.flatMap Cl.cells)) (hsg : ∀ c ∈ ss, c.good)
    (hn1 : ps.length = n1) (hc1 : n1 ≤ c1) (hm1 : c1 ≤ maxLen) (hp : Lies w (.slice b1 n1 c1) n1 6 (ps.flatMap Cl.cells)) (hpg : ∀ c ∈ ps, c.good)
    (hn2 : ks.length = n2) (hc2 : n2 ≤ c2) (hm2 : c2 ≤ maxLen) (hk : Lies w (.slice b2 n2 c2) n2 1 (ks.map (Value.int .i64))) (hkg : ∀ x ∈ ks, -9223372036854775808 ≤ x ∧ x ≤ 9223372036854775807) :
    Calls Try.prog 10 #[.slice b0 n0 c0, .slice b1 n1 c1, .slice b2 n2 c2] w fun x w' => x = .returned (.bool true) ∧ Below w.heap.size w w' := by
  subst hn0 hn1 hn2
  have hF : ∀ (W : World) (L : List Dk), St w L W → Calls Try.prog 12 #[.slice b0 ss.length c0, .slice b1 ps.length c1] W fun x W' => ∃ r kb qv, x = .returned (.pointer (some ⟨r, 0, none⟩)) ∧ St w (L ++ [⟨r, kb, qv, ⟨layW (zeros 6).kept (writes ss), writes ps, false, 0⟩⟩]) W' := fun W L h => fill1 h _ _ ss ps hs hp hsg hpg
  have hG : ∀ (W : World) (L : List Dk), St w L W → Calls Try.prog 12 #[.slice b0 ss.length c0, .slice none 0 0] W fun x W' => ∃ r kb qv, x = .returned (.pointer (some ⟨r, 0, none⟩)) ∧ St w (L ++ [⟨r, kb, qv, ⟨layW (zeros 6).kept (writes ss), [], false, 0⟩⟩]) W' := fun W L h => fill0 h _ ss hs hsg
  have hKP : ∀ (W : World) (L : List Dk) (m : Nat), m ≤ 100000 → St w L W → Calls Try.prog 14 #[.slice b2 ks.length c2, .int .i64 (m : Int)] W fun x W' => ∃ v, x = .returned v ∧ W'.ownsRow w.heap.size 3 1 v (keepOf ks m).length (ints (keepOf ks m)) ∧ St w L W' := fun W L m hm h => keep1 h _ ks (Nat.le_trans hc2 hm2) hk hkg m hm
  have hel : ∀ (X : World) (L : List Dk), St w L X → ∀ i (hi : i < ps.length), ∃ b off, b1 = some ⟨b, off, none⟩ ∧ b < w.heap.size ∧ X.cell? ⟨b, off + i * 6 + 1, none⟩ = some (.int .i64 ps[i].at') ∧ X.cell? ⟨b, off + i * 6 + 2, none⟩ = some (.string ps[i].s) := fun X L hX i hi => by
    obtain ⟨b, off, c, hv, hbl, hc⟩ := hp.elem (fun _ _ => rfl) hX.2 hi
    simp at hv
    exact ⟨b, off, hv.1, hbl, hc 1 _ rfl, hc 2 _ rfl⟩
  have hpl := writes_len ps
  have hpp := writes_le ps
  have hwa := writes_at ps
  have hkl : (layW (zeros 6).kept (writes ss)).length = 6 := layW_length _ _
  generalize layW (zeros 6).kept (writes ss) = K at hF hG hkl
  generalize writes ps = P at hF hpl hpp hwa
  have hlt := keepOf_lt ks P.length
  have hnd := keepOf_nodup ks P.length
  have hlen := keepOf_len ks P.length
  have hlm : ps.length ≤ maxLen := Nat.le_trans hc1 hm1
  unfold maxLen at hlm
  have HF := Lib.hid hF
  have HG := Lib.hid hG
  have HKP := Lib.hid hKP
  have HEL := Lib.hid hel
  have HPG := Lib.hid hpg
  have HWA := Lib.hid hwa
  have HKL := Lib.hid hkl
  have HLT := Lib.hid hlt
  have HND := Lib.hid hnd
  clear hF hG hKP hs hp hk hsg hpg hkg hel hwa hkl hlt hnd
  have h0 := St.nil w
  go_enter Try.func10, Try.ntmps10
  go_wp2_with fail
  refine (awake_any w).mono ?_
  rintro x w1 ⟨rfl, hb⟩
  have hS := h0.below hb
  clear h0 hb
  go_wp2_with fail
  refine (HF.out _ _ hS).mono ?_
  rintro x w2 ⟨r1, k1, q1, rfl, hS⟩
  go_wp2_with fail
  refine (HG.out _ _ hS).mono ?_
  rintro x w3 ⟨r2, k2, q2, rfl, hS⟩
  replace hS : St w [⟨r1, k1, q1, ⟨K, P, false, 0⟩⟩, ⟨r2, k2, q2, ⟨K, [], false, 0⟩⟩] w3 := hS
  go_wp2_with fail
  refine (pending_any hS.d1).mono ?_
  rintro x v' ⟨rfl, rfl⟩
  dsimp only
  go_wp2_with fail
  refine (HKP.out _ _ P.length (by omega) hS).mono ?_
  rintro x w4 ⟨kv, rfl, hown, hS⟩
  generalize keepOf ks P.length = KL at hown HLT HND hlen
  go_wp2_with fail
  refine (crash1 hS.d1 hS.hz (by omega) _ KL (by omega) hown HLT.out HND.out).mono ?_
  rintro x w5 ⟨rfl, hd⟩
  replace hown := hd.row hS.d1 hown
  replace hS := hS.do1 hd
  clear hd
  go_wp2_with fail
  refine (all1 hS.d1 (by simp)).mono ?_
  rintro x w6 ⟨rfl, hb⟩
  replace hown := owned_below hown hb
  replace hS := hS.below hb
  clear hb
  rw [show layW (layW K (KL.filterMap fun x => P[x]?)) [] = layW K (KL.filterMap fun x => P[x]?) from rfl]
  obtain ⟨T, hT⟩ : ∃ T : ByteArray, T = ⟨(layW K (KL.filterMap fun x => P[x]?)).flatten.toArray⟩ := ⟨_, rfl⟩
  rw [← hT]
  have HT := Lib.hid hT
  clear hT
  go_wp2_with fail
  refine (crash0 hS.d1 hS.hz (by simp)).mono ?_
  rintro x w7 ⟨rfl, hd⟩
  replace hown := hd.row hS.d1 hown
  replace hS := hS.do1 hd
  clear hd
  obtain ⟨kp, kc, rfl⟩ := (Lies.own hown).form
  have hst : (∃ q1 q2, St w [⟨r1, k1, q1, ⟨layW K (KL.filterMap fun x => P[x]?), [], false, 0⟩⟩, ⟨r2, k2, q2, ⟨K, keptOf P KL 0, false, 0⟩⟩] w7) ∧ w7.ownsRow w.heap.size 3 1 (.slice kp KL.length kc) KL.length (ints KL) := ⟨⟨_, _, hS⟩, hown⟩
  clear hS hown
  go_wp2_with fail
  go_loopw [14] (fun iv wr => ∃ i : Nat, i ≤ KL.length ∧ iv = .int .i64 (i : Int) ∧ (∃ q1 q2, St w [⟨r1, k1, q1, ⟨layW K (KL.filterMap fun x => P[x]?), [], false, 0⟩⟩, ⟨r2, k2, q2, ⟨K, keptOf P KL i, false, 0⟩⟩] wr) ∧ wr.ownsRow w.heap.size 3 1 (.slice kp KL.length kc) KL.length (ints KL)) (fun iv _ => KL.length - (intOf iv).toNat)
  case atStart => exact ⟨0, Nat.zero_le _, rfl, hst⟩
  case round =>
    obtain ⟨i, hi, rfl, ⟨q1, q2, hS⟩, hown⟩ := hrel
    clear hst
    by_cases h1 : i < KL.length
    · have d1 : decide (i < KL.length) = true := decide_eq_true h1
      obtain ⟨g, cap, hg, _, _⟩ := hown.form (by omega)
      simp at hg
      obtain ⟨rfl, rfl⟩ := hg
      obtain ⟨m, hKL⟩ : ∃ m, m = KL[i] := ⟨_, rfl⟩
      have hmP : m < P.length := by rw [hKL]; exact HLT.out KL[i] (List.getElem_mem _)
      have hsu : keptOf P KL (i + 1) = keptOf P KL i ++ [P[m]] := by subst hKL; exact keptOf_succ P KL i h1 hmP
      have hml : m < ps.length := by omega
      have hwa := HWA.out m hmP hml
      have ck : wr.drew.cell? ⟨g, i, none⟩ = some (.int .i64 (m : Int)) := owned_cell hown i _ (by simp [ints, h1, hKL])
      have hkl2 := keptOf_len P KL i
      rw [hwa] at hsu
      clear hwa
      obtain ⟨b, off, hv, hbl, c3, c4⟩ := HEL.out wr.drew _ hS.drew m hml
      subst hv
      have hpg := HPG.out ps[m] (List.getElem_mem _)
      generalize ps[m] = c at c3 c4 hpg hsu
      obtain ⟨kind, at', s, place, mask, keep⟩ := c
      have hga := hpg.at'
      have hgs := hpg.s
      dsimp only at c3 c4 hga hgs
      replace hsu : keptOf P KL (i + 1) = keptOf P KL i ++ [(pickOf at' 6, fullOf s.data.toList)] := hsu
      have hpk := pickOf_lt at' (n := 6) (by decide)
      have hS0 : wr.drew.cell? ⟨g, i, none⟩ = some (.int .i64 (m : Int)) ∧ wr.drew.cell? ⟨b, off + m * 6 + 1, none⟩ = some (.int .i64 at') ∧ wr.drew.cell? ⟨b, off + m * 6 + 2, none⟩ = some (.string s) := ⟨ck, c3, c4⟩
      have e0 : (0 : Int) ≤ (i : Int) := by omega
      have e1 : (i : Int) < (KL.length : Int) := by omega
      have e2 : (0 : Int) ≤ (m : Int) := by omega
      have e3 : (m : Int) < (ps.length : Int) := by omega
      have d2 : decide (ps.length ≤ m) = false := decide_eq_false (by omega)
      have hwp : ∀ W2, Below wr.drew.heap.size wr.drew W2 → Calls Try.prog 21 #[.pointer (some ⟨r2, 0, none⟩), .int .i64 (pickOf at' 6 : Int), .string ⟨(fullOf s.data.toList).toArray⟩] W2 fun x W3 => x = .returned (.int .i64 0) ∧ (W3.cell? ⟨g, i, none⟩ = some (.int .i64 (m : Int)) ∧ W3.cell? ⟨b, off + m * 6 + 1, none⟩ = some (.int .i64 at') ∧ W3.cell? ⟨b, off + m * 6 + 2, none⟩ = some (.string s)) ∧ (∃ q1 q2, St w [⟨r1, k1, q1, ⟨layW K (KL.filterMap fun x => P[x]?), [], false, 0⟩⟩, ⟨r2, k2, q2, ⟨K, keptOf P KL (i + 1), false, 0⟩⟩] W3) ∧ W3.ownsRow w.heap.size 3 1 (.slice (some ⟨g, 0, none⟩) KL.length kc) KL.length (ints KL) := fun W2 hb2 => by
        have hS2 := hS.drew.below hb2
        have hc2 := cells3 hb2 hS0
        have ho2 := owned_below (W := wr.drew) hown.drew hb2
        refine (write1 hS2.d2 hS2.hz (pickOf at' 6) (by rw [HKL.out]; exact hpk) (fullOf s.data.toList) (fullOf_length _) (by omega)).mono ?_
        rintro x W3 ⟨rfl, pv2, hd⟩
        rw [← hsu] at hd
        have ho3 := hd.row hS2.d2 ho2
        exact ⟨rfl, ⟨by have := owned_cell ho3 i (.int .i64 (m : Int)) (by simp [ints, h1, hKL]); exact this, (hd.below.cell (p := ⟨b, _, none⟩) hbl).trans hc2.2.1, (hd.below.cell (p := ⟨b, _, none⟩) hbl).trans hc2.2.2⟩, ⟨_, _, hS2.do2 hd⟩, ho3⟩
      have HWP := Lib.hid hwp
      have HSU := Lib.hid hsu
      clear hwp hsu ck c3 c4 hpg hKL
      go_wp2_with fail
      go_region_held3 (fun W' : World => W'.cell? ⟨g, i, none⟩ = some (.int .i64 (m : Int)) ∧ W'.cell? ⟨b, off + m * 6 + 1, none⟩ = some (.int .i64 at') ∧ W'.cell? ⟨b, off + m * 6 + 2, none⟩ = some (.string s))
        (assumption)
        (first
          | (go_at_call 17; (with_reducible refine (pick6 _ hga _).mono ?_); rintro x w2 ⟨rfl, rfl⟩)
          | (go_at_call 18; (with_reducible refine (full_any _ hgs _).mono ?_); rintro x w2 ⟨rfl, hb2⟩; have hS2 := cells3 hb2 hS0)
          | (go_at_call 21; (with_reducible refine (HWP.out _ hb2).mono ?_); rintro x w3 ⟨rfl, hS3, hst, hown3⟩))
      all_goals
        go_wp2_with fail
        exact ⟨⟨i + 1, by omega, by go_num, hst, hown3⟩, by simp [intOf]; omega⟩
    · obtain rfl : i = KL.length := by omega
      have d1 : decide (KL.length < KL.length) = false := decide_eq_false h1
      have hkl2 := keptOf_len P KL KL.length
      rw [keptOf_end] at hS hkl2
      clear hown
      go_wp2_with fail
      refine (sync1 hS.d2 hS.hz (by omega)).mono ?_
      rintro x v ⟨rfl, hd⟩
      replace hS := hS.do2 hd
      clear hd
      go_wp2_with fail
      refine (all1 hS.d1 (by simp)).mono ?_
      rintro x v ⟨rfl, hb⟩
      replace hS := hS.below hb
      clear hb
      rw [show (⟨(layW (layW K (KL.filterMap fun x => P[x]?)) []).flatten.toArray⟩ : ByteArray) = T from HT.out.symm]
      go_wp2_with fail
      refine (all1 hS.d2 (by simp)).mono ?_
      rintro x v ⟨rfl, hb⟩
      replace hS := hS.below hb
      clear hb
      rw [show (⟨(layW (layW K (KL.filterMap fun x => P[x]?)) []).flatten.toArray⟩ : ByteArray) = T from HT.out.symm]
      go_wp2_with fail
      go_ret
      exact ⟨rfl, hS.2⟩
end Go.Proofs.Ytepdncpgcpndoaa

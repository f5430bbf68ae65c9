/- The walk of DiskLast. -/
import Derived.Test.YtepdncpgcpndoaaDiskAwake
import Derived.Test.YtepdncpgcpndoaaDiskFacts
set_option linter.unusedSimpArgs false
set_option linter.unusedVariables false
namespace Wire
/-- writes of one sector -/
def oneSec (k : Nat) (l : List ByteArray) : List (Nat × List UInt8) := l.map fun s => (k, fullOf s.data.toList)
theorem oneSec_snoc (k : Nat) (l : List ByteArray) (i : Nat) (h : i < l.length) : oneSec k (l.take (i + 1)) = oneSec k (l.take i) ++ [(k, fullOf l[i].data.toList)] := by
  unfold oneSec; rw [List.take_succ_eq_append_getElem h, List.map_append]; rfl
theorem oneSec_last (Z : List UInt8) (k : Nat) (l : List ByteArray) (n : Nat) (KL : List Nat) (m : Nat) (hm : m < n) (hn : n ≤ l.length) : lastOf Z ((KL ++ [m]).filterMap fun x => (oneSec k (l.take n))[x]?) k = fullOf (l[m]'(by omega)).data.toList := by
  have e : (oneSec k (l.take n))[m]? = some (k, fullOf (l[m]'(by omega)).data.toList) := by
    unfold oneSec
    rw [List.getElem?_map, List.getElem?_take, if_pos hm, List.getElem?_eq_getElem (by omega)]
    rfl
  rw [List.filterMap_append, List.filterMap_cons, e]
  exact (lastOf_snoc _ _ _ _).trans (if_pos rfl)
end Wire
namespace Go.Proofs.Ytepdncpgcpndoaa
open Go Go.RowKit Wire

theorem zeros_at (k : Nat) (h : k < (zeros 6).kept.length) : (zeros 6).kept[k] = fullOf [] := by
  have e : ∀ h', (List.replicate 6 (List.replicate 64 (0 : UInt8)))[k]'h' = List.replicate 64 0 := fun h' => List.getElem_replicate h'
  exact (e h).trans rfl

set_option maxRecDepth 100000 in
set_option maxHeartbeats 8000000 in
theorem diskLast_walk (b0 : Option Addr) (n0 c0 : Nat) (l : List ByteArray) (at' : Int) (b2 : Option Addr) (n2 c2 : Nat) (ks : List Int) (w : World)
    (hn0 : l.length = n0) (hc0 : n0 ≤ c0) (hm0 : c0 ≤ maxLen) (hs : Lies w (.slice b0 n0 c0) n0 1 (l.map .string)) (hsg : ∀ s ∈ l, s.size ≤ maxLen)
    (hat : -9223372036854775808 ≤ at' ∧ at' ≤ 9223372036854775807)
    (hn2 : ks.length = n2) (hc2 : n2 ≤ c2) (hm2 : c2 ≤ maxLen) (hk : Lies w (.slice b2 n2 c2) n2 1 (ks.map (Value.int .i64))) (hkg : ∀ x ∈ ks, -9223372036854775808 ≤ x ∧ x ≤ 9223372036854775807) :
    Calls Try.prog 5 #[.slice b0 n0 c0, .int .i64 at', .slice b2 n2 c2] w fun x w' => x = .returned (.bool true) ∧ Below w.heap.size w w' := by
  subst hn0 hn2
  have hKP : ∀ (W : World) (L : List Dk) (m : Nat), m ≤ 100000 → St w L W → Calls Try.prog 14 #[.slice b2 ks.length c2, .int .i64 (m : Int)] W fun x W' => ∃ v, x = .returned v ∧ W'.ownsRow w.heap.size 3 1 v (keepOf ks m).length (ints (keepOf ks m)) ∧ St w L W' := fun W L m hm h => keep1 h _ ks (Nat.le_trans hc2 hm2) hk hkg m hm
  have hel : ∀ (X : World) (L : List Dk), St w L X → ∀ i (hi : i < l.length), ∃ b off, b0 = some ⟨b, off, none⟩ ∧ X.cell? ⟨b, off + i, none⟩ = some (.string l[i]) := fun X L hX i hi => by
    rcases (hs.below hX.2).2 with ⟨h0, _⟩ | ⟨b, off, c, hv, _, hc⟩
    · omega
    · simp at hv
      exact ⟨b, off, hv.1, hc i _ (by rw [List.getElem?_map, List.getElem?_eq_getElem hi]; rfl)⟩
  obtain ⟨n, hn⟩ : ∃ n : Nat, n = min l.length 9 := ⟨_, rfl⟩
  have hn9 : n ≤ 9 := by omega
  have hnl : n ≤ l.length := by omega
  have hmin : (if (9 : Int) < (l.length : Int) then (9 : Int) else (l.length : Int)) = (n : Int) := by split <;> omega
  have hlt := keepOf_lt ks n
  have hnd := keepOf_nodup ks n
  have hlen := keepOf_len ks n
  have hk6 := pickOf_lt at' (n := 6) (by decide)
  have hpk := pick6 at' hat
  generalize pickOf at' 6 = k at hk6 hpk
  have HKP := Lib.hid hKP
  have HEL := Lib.hid hel
  have HSG := Lib.hid hsg
  have HLT := Lib.hid hlt
  have HND := Lib.hid hnd
  have HPK := Lib.hid hpk
  clear hKP hs hk hsg hkg hel hlt hnd hpk hn
  have h0 := St.nil w
  go_enter Try.func5, Try.ntmps5
  go_wp2_with fail
  refine (awake_any w).mono ?_
  rintro x w1 ⟨rfl, hb⟩
  have hS := h0.below hb
  clear h0 hb
  go_wp2_with fail
  refine (fill1 hS _ _ [] [] (lies_nil w 6) (lies_nil w 6) (by simp) (by simp)).mono ?_
  rintro x w2 ⟨r, kb, q, rfl, hS⟩
  replace hS : St w [⟨r, kb, q, ⟨(zeros 6).kept, oneSec k (l.take 0), false, 0⟩⟩] w2 := hS
  go_wp2_with fail
  refine (HPK.out w2).mono ?_
  rintro x v' ⟨rfl, rfl⟩
  go_wp2_with fail
  clear hmin
  have hst : ∃ q, St w [⟨r, kb, q, ⟨(zeros 6).kept, oneSec k (l.take 0), false, 0⟩⟩] w2 := ⟨_, hS⟩
  clear hS
  go_loopw [11] (fun iv wr => ∃ i : Nat, i ≤ n ∧ iv = .int .i64 (i : Int) ∧ ∃ q, St w [⟨r, kb, q, ⟨(zeros 6).kept, oneSec k (l.take i), false, 0⟩⟩] wr) (fun iv _ => n - (intOf iv).toNat)
  case atStart => exact ⟨0, Nat.zero_le _, rfl, hst⟩
  case round =>
    obtain ⟨i, hi, rfl, q, hS⟩ := hrel
    clear hst
    by_cases h1 : i < n
    · have d1 : decide (i < n) = true := decide_eq_true h1
      obtain ⟨b, off, hv, c1⟩ := HEL.out wr _ hS i (by omega)
      subst hv
      have hgs := HSG.out l[i] (List.getElem_mem _)
      have hsn := oneSec_snoc k l i (by omega)
      have hfl := full_any l[i] hgs wr
      have hol : (oneSec k (l.take i)).length ≤ 100000 := by unfold oneSec; rw [List.length_map, List.length_take]; omega
      generalize hsi : l[i] = s at hsn hfl c1 hgs
      clear hsi
      have HSN := Lib.hid hsn
      have HFL := Lib.hid hfl
      clear hsn hfl
      have e0 : (0 : Int) ≤ (i : Int) := by omega
      have e1 : (i : Int) < (l.length : Int) := by omega
      go_wp2_with fail
      refine HFL.out.mono ?_
      rintro x v ⟨rfl, hb⟩
      replace hS := hS.below hb
      clear hb
      go_wp2_with fail
      refine (write1 hS.d1 hS.hz k hk6 (fullOf s.data.toList) (fullOf_length _) hol).mono ?_
      rintro x v2 ⟨rfl, pv2, hd⟩
      rw [← HSN.out] at hd
      replace hS := hS.do1 hd
      clear hd
      go_wp2_with fail
      exact ⟨⟨i + 1, by omega, by go_num, _, hS⟩, by simp [intOf]; omega⟩
    · obtain rfl : i = n := by omega
      have d1 : decide (i < i) = false := decide_eq_false h1
      have hol : (oneSec k (l.take i)).length = i := by unfold oneSec; rw [List.length_map, List.length_take]; omega
      have hlast : ∀ KL m (hm : m < i) (hl : m < l.length), lastOf (fullOf []) ((KL ++ [m]).filterMap fun x => (oneSec k (l.take i))[x]?) k = fullOf (l[m]'hl).data.toList := fun KL m hm hl => oneSec_last _ k l i KL m hm hnl
      generalize oneSec k (l.take i) = P at hS hol hlast
      have HOL := Lib.hid hol
      have HLA := Lib.hid hlast
      clear hol hlast
      go_wp2_with fail
      refine (HKP.out _ _ i (by omega) hS).mono ?_
      rintro x w4 ⟨kv, rfl, hown, hS⟩
      go_wp2_with fail
      refine (full_any ⟨#[]⟩ (by decide) w4).mono ?_
      rintro x w5 ⟨rfl, hb⟩
      have hown' := owned_below hown hb
      replace hS := hS.below hb
      clear hb hown
      rw [show fullOf (⟨#[]⟩ : ByteArray).data.toList = fullOf [] from rfl]
      generalize keepOf ks i = KL at hown' HLT HND hlen
      rcases List.eq_nil_or_concat KL with rfl | ⟨KL', m, rfl⟩
      · obtain ⟨p, c, rfl⟩ := (Lies.own hown').form
        go_wp2_with fail
        refine (crash1 hS.d1 hS.hz (by rw [HOL.out]; omega) _ [] (by simp) hown' (by simp) List.nodup_nil).mono ?_
        rintro x w6 ⟨rfl, hd⟩
        replace hS := hS.do1 hd
        clear hd hown'
        go_wp2_with fail
        have hk6' : k < (zeros 6).kept.length := hk6
        have hr := read1 hS.d1 k (by rw [layW_length]; exact hk6') (by simp)
        have e : (layW (layW (zeros 6).kept (List.filterMap (fun x : Nat => P[x]?) [])) [])[k]'(by rw [layW_length, layW_length]; exact hk6') = fullOf [] := zeros_at k hk6'
        rw [e] at hr
        clear e hk6'
        have HR := Lib.hid hr
        clear hr
        refine HR.out.mono ?_
        rintro x w7 ⟨rfl, hb⟩
        replace hS := hS.below hb
        clear hb HR
        go_wp2_with fail
        go_ret
        exact ⟨rfl, hS.2⟩
      · obtain ⟨g, cap, rfl, hgb, hgl⟩ := hown'.form (by simp)
        have hmi : m < i := HLT.out m (by simp)
        have c2 : w5.cell? ⟨g, KL'.length, none⟩ = some (.int .i64 (m : Int)) := owned_cell hown' KL'.length _ (by simp [ints])
        obtain ⟨b, off, hv, c3⟩ := HEL.out w5 _ hS m (by omega)
        subst hv
        have hgs := HSG.out (l[m]'(by omega)) (List.getElem_mem _)
        have hfl := full_any (l[m]'(by omega)) hgs w5
        have hla := HLA.out KL' m hmi (by omega)
        generalize l[m]'(by omega) = s at c3 hgs hfl hla
        generalize fullOf s.data.toList = f at hfl hla
        have HFL := Lib.hid hfl
        have HLL := Lib.hid hla
        have HOW := Lib.hid hown'
        clear hfl hla hown'
        have e0 : (0 : Int) ≤ (m : Int) := by omega
        have e1 : (m : Int) < (l.length : Int) := by omega
        have hkl : KL'.length ≤ 20 := by simp at hlen; omega
        rw [show (KL'.concat m).length = KL'.length + 1 from by simp]
        go_wp2_with fail
        refine HFL.out.mono ?_
        rintro x v ⟨rfl, hb⟩
        have hown' := owned_below HOW.out hb
        replace hS := hS.below hb
        clear hb HFL HOW
        go_wp2_with fail
        have hown2 : v.ownsRow w.heap.size 3 1 (.slice (some ⟨g, 0, none⟩) (KL'.length + 1) cap) (KL'.concat m).length (ints (KL'.concat m)) := by
          rw [show KL'.length + 1 = (KL'.concat m).length from by simp]; exact hown'
        refine (crash1 hS.d1 hS.hz (by rw [HOL.out]; omega) _ (KL'.concat m) (by omega) hown2 (by rw [HOL.out]; exact HLT.out) HND.out).mono ?_
        rintro x w6 ⟨rfl, hd⟩
        replace hS := hS.do1 hd
        clear hd hown' hown2
        go_wp2_with fail
        have hk6' : k < (zeros 6).kept.length := hk6
        have hr := read1 hS.d1 k (by rw [layW_length]; exact hk6') (by simp)
        have e : (layW (layW (zeros 6).kept (List.filterMap (fun x : Nat => P[x]?) (KL'.concat m))) [])[k]'(by rw [layW_length, layW_length]; exact hk6') = f := by
          have e1 := layW_at (zeros 6).kept (List.filterMap (fun x : Nat => P[x]?) (KL'.concat m)) k hk6'
          refine e1.trans ?_
          rw [zeros_at k hk6', List.concat_eq_append]
          exact HLL.out
        rw [e] at hr
        have HR := Lib.hid hr
        clear hr e hk6'
        refine HR.out.mono ?_
        rintro x w7 ⟨rfl, hb⟩
        replace hS := hS.below hb
        clear hb HR
        go_wp2_with fail
        go_ret
        exact ⟨rfl, hS.2⟩
end Go.Proofs.Ytepdncpgcpndoaa

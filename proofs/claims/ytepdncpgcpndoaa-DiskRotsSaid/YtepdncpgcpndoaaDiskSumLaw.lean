/- The walk of DiskSum. -/
import Derived.Test.YtepdncpgcpndoaaDiskTwiceLaw
import Derived.Test.YtepdncpgcpndoaaWireSum
import Derived.Test.YtepdncpgcpndoaaWireCrcMore
set_option linter.unusedSimpArgs false
set_option linter.unusedVariables false
namespace Wire
/-- those of the first i calls that write another sector than the k-th -/
def othersTo (k : Nat) (l : List Cl) (i : Nat) : List Cl := (l.take i).filter fun c => !(pickOf c.at' 6 == k)
theorem othersTo_succ (k : Nat) (l : List Cl) (i : Nat) (h : i < l.length) : othersTo k l (i + 1) = if pickOf l[i].at' 6 = k then othersTo k l i else othersTo k l i ++ [l[i]] := by
  unfold othersTo
  rw [List.take_succ_eq_append_getElem h, List.filter_append]
  by_cases hk : pickOf l[i].at' 6 = k
  · simp [hk]
  · simp [hk]
theorem othersTo_len (k : Nat) (l : List Cl) (i : Nat) : (othersTo k l i).length ≤ i := by
  unfold othersTo
  exact Nat.le_trans (List.length_filter_le _ _) (by rw [List.length_take]; omega)
theorem othersTo_mem (k : Nat) (l : List Cl) (i : Nat) : ∀ c ∈ othersTo k l i, c ∈ l ∧ pickOf c.at' 6 ≠ k := fun c hc => by
  unfold othersTo at hc
  obtain ⟨h1, h2⟩ := List.mem_filter.1 hc
  exact ⟨List.mem_of_mem_take h1, by simpa using h2⟩
theorem writes_mem (l : List Cl) : ∀ p ∈ writes l, ∃ c ∈ l, p = c.write := fun p hp => by
  unfold writes at hp
  obtain ⟨c, hc, rfl⟩ := List.mem_map.1 hp
  exact ⟨c, List.mem_of_mem_take hc, rfl⟩
theorem lastOf_none (K : List UInt8) (P : List (Nat × List UInt8)) (k : Nat) (h : ∀ p ∈ P, p.1 ≠ k) : lastOf K P k = K := by
  rcases lastOf_cases K P k with h1 | ⟨p, hp, h1, _⟩
  · exact h1
  · exact absurd h1 (h p hp)
/-- a byte that is turned turns the sum -/
theorem crc_turned (s : List UInt8) (p : Nat) (b : UInt8) (hp : s[p]? = some b) (m : Nat) (h1 : 0 < m) (h2 : m < 256) : crc (s.set p (b ^^^ UInt8.ofNat m)) ≠ crc s := by
  obtain ⟨hl, he⟩ := List.getElem?_eq_some_iff.1 hp
  intro e
  have e1 : s.set p (b ^^^ UInt8.ofNat m) = s.take p ++ [b ^^^ UInt8.ofNat m] ++ s.drop (p + 1) := by
    rw [List.set_eq_take_append_cons_drop, if_pos hl]; simp
  have e2 : s = s.take p ++ [b] ++ s.drop (p + 1) := by
    rw [← he]; simp
  rw [e1] at e
  conv at e => rhs; rw [e2]
  have := crc_byte e
  have h3 : UInt8.ofNat m = 0 := by
    have h4 := congrArg (b ^^^ ·) this
    simp only [← UInt8.xor_assoc, UInt8.xor_self, UInt8.zero_xor] at h4
    exact h4
  have := congrArg UInt8.toNat h3
  simp at this
  omega
end Wire
namespace Go.Proofs.Ytepdncpgcpndoaa
open Go Go.RowKit Wire

theorem infoCall : (Try.prog.info? 35).map (fun i => (i.zero, i.size, i.bytes)) = some (some (.agg #[.int .u8 0, .int .i64 0, .string ⟨#[]⟩, .int .i64 0, .int .i64 0, .slice none 0 0]), 6, 72) := by kernel_rfl
theorem pick64 (c : Int) (hc : -9223372036854775808 ≤ c ∧ c ≤ 9223372036854775807) (w : World) :
    Calls Try.prog 17 #[.int .i64 c, .int .i64 64] w fun x w' => x = .returned (.int .i64 (pickOf c 64 : Int)) ∧ w = w' := pick_any c 64 hc (by decide) (by decide) w
theorem pick255 (c : Int) (hc : -9223372036854775808 ≤ c ∧ c ≤ 9223372036854775807) (w : World) :
    Calls Try.prog 17 #[.int .i64 c, .int .i64 255] w fun x w' => x = .returned (.int .i64 (pickOf c 255 : Int)) ∧ w = w' := pick_any c 255 hc (by decide) (by decide) w

set_option maxRecDepth 100000 in
set_option maxHeartbeats 8000000 in
theorem diskSum_walk (b0 : Option Addr) (n0 c0 : Nat) (ss : List Cl) (at' : Int) (b2 : Option Addr) (n2 c2 : Nat) (ks : List Int) (pl mk : Int) (w : World)
    (hn0 : ss.length = n0) (hc0 : n0 ≤ c0) (hm0 : c0 ≤ maxLen) (hs : Lies w (.slice b0 n0 c0) n0 6 (ss.flatMap Cl.cells)) (hsg : ∀ c ∈ ss, c.good ∧ c.keep.oneCell' = true)
    (hat : -9223372036854775808 ≤ at' ∧ at' ≤ 9223372036854775807)
    (hn2 : ks.length = n2) (hc2 : n2 ≤ c2) (hm2 : c2 ≤ maxLen) (hk : Lies w (.slice b2 n2 c2) n2 1 (ks.map (Value.int .i64))) (hkg : ∀ x ∈ ks, -9223372036854775808 ≤ x ∧ x ≤ 9223372036854775807)
    (hpl : -9223372036854775808 ≤ pl ∧ pl ≤ 9223372036854775807) (hmk : -9223372036854775808 ≤ mk ∧ mk ≤ 9223372036854775807) :
    Calls Try.prog 9 #[.slice b0 n0 c0, .int .i64 at', .slice b2 n2 c2, .int .i64 pl, .int .i64 mk] w fun x w' => x = .returned (.bool true) ∧ Below w.heap.size w w' := by
  subst hn0 hn2
  obtain ⟨i0, hi0, hz0, hz1, hz2⟩ := info_parts infoCall
  have hKP : ∀ (W : World) (L : List Dk) (m : Nat), m ≤ 100000 → St w L W → Calls Try.prog 14 #[.slice b2 ks.length c2, .int .i64 (m : Int)] W fun x W' => ∃ v, x = .returned v ∧ W'.ownsRow w.heap.size 3 1 v (keepOf ks m).length (ints (keepOf ks m)) ∧ St w L W' := fun W L m hm h => keep1 h _ ks (Nat.le_trans hc2 hm2) hk hkg m hm
  have hFL : ∀ (W : World) (ov : Value) (os : List Cl), St w [] W → (∀ c ∈ os, c ∈ ss) → W.ownsRow w.heap.size 35 6 ov os.length (os.flatMap Cl.cells) → Calls Try.prog 12 #[.slice b0 ss.length c0, ov] W fun x W' => ∃ r kb qv, x = .returned (.pointer (some ⟨r, 0, none⟩)) ∧ St w [⟨r, kb, qv, ⟨layW (zeros 6).kept (writes ss), writes os, false, 0⟩⟩] W' := fun W ov os hW hos ho =>
    (filled_any _ ov ss os W (hs.below hW.2) (Lies.own ho) (fun c hc => (hsg c hc).1) (fun c hc => (hsg c (hos c hc)).1)).mono fun _ _ ⟨r, kb, qv, hx, hd, hb⟩ => ⟨r, kb, qv, hx, hW.new hb hd⟩
  have hel : ∀ (X : World) (L : List Dk), St w L X → ∀ i (hi : i < ss.length), ∃ b off, b0 = some ⟨b, off, none⟩ ∧ X.cell? ⟨b, off + i * 6, none⟩ = some (.int .u8 ss[i].kind) ∧ X.cell? ⟨b, off + i * 6 + 1, none⟩ = some (.int .i64 ss[i].at') ∧ X.cell? ⟨b, off + i * 6 + 2, none⟩ = some (.string ss[i].s) ∧ X.cell? ⟨b, off + i * 6 + 3, none⟩ = some (.int .i64 ss[i].place) ∧ X.cell? ⟨b, off + i * 6 + 4, none⟩ = some (.int .i64 ss[i].mask) ∧ X.cell? ⟨b, off + i * 6 + 5, none⟩ = some ss[i].keep := fun X L hX i hi => by
    obtain ⟨b, off, c, hv, hbl, hc⟩ := hs.elem (fun _ _ => rfl) hX.2 hi
    simp at hv
    exact ⟨b, off, hv.1, hc 0 _ rfl, hc 1 _ rfl, hc 2 _ rfl, hc 3 _ rfl, hc 4 _ rfl, hc 5 _ rfl⟩
  have hkl : (layW (zeros 6).kept (writes ss)).length = 6 := layW_length _ _
  have hk64 : ∀ s ∈ layW (zeros 6).kept (writes ss), s.length = 64 := by
    have hgd : (⟨(zeros 6).kept, writes ss, false, 0⟩ : DS).good := ⟨(zeros_good 6 (by decide)).k64, fun p hp => by
      obtain ⟨c, _, rfl⟩ := writes_mem ss p hp
      exact ⟨fullOf_length _, pickOf_lt _ (by decide)⟩, by show 6 ≤ 768; omega, by show 0 ≤ 9223372036854775807; omega⟩
    exact DS.now_64 hgd
  generalize layW (zeros 6).kept (writes ss) = K at hFL hkl hk64
  have hkp := pickOf_lt at' (n := 6) (by decide)
  have hpk := pick6 at' hat
  generalize pickOf at' 6 = k at hkp hpk
  have hosu := othersTo_succ k ss
  have hosl := othersTo_len k ss
  have hosm := othersTo_mem k ss
  have hpp := pickOf_lt pl (n := 64) (by decide)
  have hp64 := pick64 pl hpl
  generalize pickOf pl 64 = p at hpp hp64
  have hmm := pickOf_lt mk (n := 255) (by decide)
  have hp255 := pick255 mk hmk
  generalize pickOf mk 255 = m at hmm hp255
  have hlm : ss.length ≤ maxLen := Nat.le_trans hc0 hm0
  unfold maxLen at hlm
  have HKP := Lib.hid hKP
  have HFL := Lib.hid hFL
  have HEL := Lib.hid hel
  have HSG := Lib.hid hsg
  have HKL := Lib.hid hkl
  have HK64 := Lib.hid hk64
  have HPK := Lib.hid hpk
  have HOS := Lib.hid hosu
  have HOL := Lib.hid hosl
  have HOM := Lib.hid hosm
  have HP64 := Lib.hid hp64
  have HP255 := Lib.hid hp255
  clear hKP hFL hel hs hsg hk hkg hkl hk64 hpk hosu hosl hosm hp64 hp255 hat hpl hmk
  have h0 := St.nil w
  go_enter Try.func9, Try.ntmps9
  go_wp2_with fail
  refine (awake_any w).mono ?_
  rintro x w1 ⟨rfl, hb⟩
  have hS := h0.below hb
  clear h0 hb
  go_wp2_with fail
  refine (HPK.out _).mono ?_
  rintro x v' ⟨rfl, rfl⟩
  have hst : St w [] w1 ∧ w1.ownsRow w.heap.size 35 6 (.slice none 0 0) (othersTo k ss 0).length ((othersTo k ss 0).flatMap Cl.cells) := ⟨hS, World.ownsRow_nil _ _ _ _⟩
  clear hS
  go_wp2_with fail
  go_loopw [13, 14] (fun ov iv wr => ∃ i : Nat, i ≤ ss.length ∧ i ≤ 8 ∧ iv = .int .i64 (i : Int) ∧ St w [] wr ∧ wr.ownsRow w.heap.size 35 6 ov (othersTo k ss i).length ((othersTo k ss i).flatMap Cl.cells)) (fun _ iv _ => 8 - (intOf iv).toNat)
  case atStart => exact ⟨0, Nat.zero_le _, Nat.zero_le _, rfl, hst⟩
  case round =>
    obtain ⟨i, hi, hi8, rfl, hS, hown⟩ := hrel
    clear hst
    by_cases hgo : i < ss.length ∧ i < 8
    · obtain ⟨h1, h2⟩ := hgo
      have d1 : decide (i < ss.length) = true := decide_eq_true h1
      have d2 : decide ((i : Int) < 8) = true := decide_eq_true (by omega)
      obtain ⟨b, off, hv, q0, q1, q2, q3, q4, q5⟩ := HEL.out wr _ hS i h1
      subst hv
      have hg := HSG.out ss[i] (List.getElem_mem _)
      have hos := HOS.out i h1
      have hol := HOL.out i
      generalize ss[i] = c at q0 q1 q2 q3 q4 q5 hg hos
      obtain ⟨kind, cat, s, place, mask, keep⟩ := c
      have hga := hg.1.at'
      have hk1 := hg.2
      dsimp only at q0 q1 q2 q3 q4 q5 hga hk1 hos
      have hp6 := pick6 cat hga
      generalize pickOf cat 6 = a at hp6 hos
      have HP6 := Lib.hid hp6
      have e0 : (0 : Int) ≤ (i : Int) := by omega
      have e1 : (i : Int) < (ss.length : Int) := by omega
      clear hp6 hg
      by_cases ha : a = k
      · rw [if_pos ha] at hos
        have HOS' := Lib.hid hos
        have d3 : ((a : Int) == (k : Int)) = true := by rw [beq_iff_eq]; omega
        have d4 : ((a : Int) != (k : Int)) = false := by rw [bne, d3]; rfl
        have HOW := Lib.hid hown
        clear hos hown
        go_wp2_with fail
        refine (HP6.out _).mono ?_
        rintro x v ⟨rfl, rfl⟩
        go_wp2_with fail
        exact ⟨⟨i + 1, by omega, by omega, by go_num, hS, by rw [HOS'.out]; exact HOW.out⟩, by simp [intOf]; omega⟩
      · rw [if_neg ha] at hos
        have HOS' := Lib.hid hos
        have d3 : ((a : Int) == (k : Int)) = false := by rw [beq_eq_false_iff_ne]; omega
        have d4 : ((a : Int) != (k : Int)) = true := by rw [bne, d3]; rfl
        have hnb : (wr.alloc (.cells #[.int .u8 kind, .int .i64 cat, .string s, .int .i64 place, .int .i64 mask, keep] 35)).heap[wr.heap.size]? = some (.cells #[.int .u8 kind, .int .i64 cat, .string s, .int .i64 place, .int .i64 mask, keep] 35 (0, 0)) := World.alloc_heap_new wr _
        have hSa := hS.alloc (.cells #[.int .u8 kind, .int .i64 cat, .string s, .int .i64 place, .int .i64 mask, keep] 35)
        have howna := hown.alloc (.cells #[.int .u8 kind, .int .i64 cat, .string s, .int .i64 place, .int .i64 mask, keep] 35)
        have HSA := Lib.hid hSa
        have HOW := Lib.hid howna
        have HNB := Lib.hid hnb
        have HK1 := Lib.hid hk1
        clear hos hown hnb hSa howna hS hk1
        go_wp2_with fail
        refine (HP6.out _).mono ?_
        rintro x v ⟨rfl, rfl⟩
        go_wp2_with (at_builtin; refine wpList_append_lies _ rfl _ _ _ rfl w.heap.size 35 i0 _ 6 72 Try.underlying22 hi0 hz0 hz1 hz2 rfl (by omega) _ (othersTo k ss i).length _ rfl HOW.out ⟨wr.heap.size, 0, none⟩ 1 1 [.int .u8 kind, .int .i64 cat, .string s, .int .i64 place, .int .i64 mask, keep] rfl rfl (World.news_of_block (cs := #[.int .u8 kind, .int .i64 cat, .string s, .int .i64 place, .int .i64 mask, keep]) (t := 35) (fr := (0, 0)) HNB.out) (fun u hu => by simp only [List.mem_cons, List.mem_nil_iff, or_false] at hu; rcases hu with rfl | rfl | rfl | rfl | rfl | rfl <;> first | rfl | exact HK1.out) (by omega) (by simp [maxLen]; omega) (by omega) HSA.out.hz _ rfl ?_; intro gg cap w2 hown1 hgrow hat hlt2)
        have hS2 := HSA.out.grown hgrow (fun q hq => by
          obtain ⟨h1, cur, h2⟩ := owned_block HOW.out hq
          exact ⟨h1, cur, _, h2, by decide, by decide, by decide⟩)
        refine ⟨⟨i + 1, by omega, by omega, by go_num, hS2, ?_⟩, by simp [intOf]; omega⟩
        rw [HOS'.out, List.flatMap_append, List.length_append]
        exact hown1
    · have hom := HOM.out i
      have hol := HOL.out i
      generalize othersTo k ss i = os at hown hom hol
      obtain ⟨op, oc, rfl⟩ := (Lies.own hown).form
      have hfl := HFL.out wr _ os hS (fun c hc => (hom c hc).1) hown
      have hne : ∀ q ∈ writes os, q.1 ≠ k := fun q hq => by
        obtain ⟨c, hc, rfl⟩ := writes_mem os q hq
        exact (hom c hc).2
      have hpl := writes_len os
      generalize writes os = P at hfl hne hpl
      have HNE := Lib.hid hne
      have HFL2 := Lib.hid hfl
      clear hfl hne hom hown
      have hgo2 : (i < ss.length ∧ i = 8) ∨ ¬ i < ss.length := by omega
      rcases hgo2 with ⟨h1, h2⟩ | h1
      all_goals
        first
          | (have d1 : decide (i < ss.length) = true := decide_eq_true h1
             have d2 : decide ((i : Int) < 8) = false := decide_eq_false (by omega)
             clear h2
             go_wp2_with fail)
          | (have d1 : decide (i < ss.length) = false := decide_eq_false h1
             go_wp2_with fail)
        refine HFL2.out.mono ?_
        rintro x v ⟨r, kb, qv, rfl, hS⟩
        go_wp2_with fail
        have hkK : k < K.length := by rw [HKL.out]; exact hkp
        have hs64 : (K[k]).length = 64 := HK64.out _ (List.getElem_mem _)
        have hr1 := read1 hS.d1 k hkK (by omega)
        rw [layW_at K P k hkK, lastOf_none _ P k HNE.out] at hr1
        have hKk : K[k]? = some K[k] := List.getElem?_eq_getElem hkK
        generalize K[k] = s at hs64 hr1 hKk
        have HS64 := Lib.hid hs64
        have HKK := Lib.hid hKk
        have HR1 := Lib.hid hr1
        clear hs64 hr1 hKk
        refine HR1.out.mono ?_
        rintro x v2 ⟨rfl, hb⟩
        replace hS := hS.below hb
        clear hb HR1
        go_wp2_with fail
        refine (pending_any hS.d1).mono ?_
        rintro x v3 ⟨rfl, rfl⟩
        dsimp only
        go_wp2_with fail
        refine (HKP.out _ _ P.length (by omega) hS).mono ?_
        rintro x v3 ⟨kv, rfl, hown, hS⟩
        have hlt := keepOf_lt ks P.length
        have hnd := keepOf_nodup ks P.length
        have hlen := keepOf_len ks P.length
        generalize keepOf ks P.length = KL at hown hlt hnd hlen
        have HLT' := Lib.hid hlt
        have HND' := Lib.hid hnd
        clear hlt hnd
        go_wp2_with fail
        refine (crash1 hS.d1 hS.hz (by omega) _ KL (by omega) hown HLT'.out HND'.out).mono ?_
        rintro x v4 ⟨rfl, hd⟩
        replace hS := hS.do1 hd
        clear hd hown
        have hCk : ∀ q ∈ KL.filterMap (fun x : Nat => P[x]?), q.1 ≠ k := fun q hq => by
          obtain ⟨j, _, hj⟩ := List.mem_filterMap.1 hq
          exact HNE.out q (List.mem_of_getElem? hj)
        have hK2 : (layW K (KL.filterMap fun x => P[x]?))[k]? = some s := by
          rw [layW_get, HKK.out]
          show some (lastOf s _ k) = some s
          rw [lastOf_none _ _ k hCk]
        have hK2l : (layW K (KL.filterMap fun x => P[x]?)).length = 6 := by rw [layW_length]; exact HKL.out
        generalize layW K (KL.filterMap fun x => P[x]?) = K2 at hS hK2 hK2l
        have HK2 := Lib.hid hK2
        have HK2L := Lib.hid hK2l
        clear hK2 hK2l hCk
        go_wp2_with fail
        have hkK2 : k < K2.length := by rw [HK2L.out]; exact hkp
        have hgk : K2[k] = s := by
          have := HK2.out
          rw [List.getElem?_eq_getElem hkK2] at this
          exact Option.some.inj this
        have hr2 := read1 hS.d1 k hkK2 (by simp)
        rw [show (layW K2 [])[k]'(by rw [layW_length]; exact hkK2) = s from hgk] at hr2
        have HR2 := Lib.hid hr2
        have HGK := Lib.hid hgk
        clear hr2 hgk
        refine HR2.out.mono ?_
        rintro x v5 ⟨rfl, hb⟩
        replace hS := hS.below hb
        clear hb HR2
        go_wp2_with fail
        refine (HP255.out _).mono ?_
        rintro x v6 ⟨rfl, rfl⟩
        go_wp2_with fail
        refine (HP64.out _).mono ?_
        rintro x v6 ⟨rfl, rfl⟩
        have hps : p < s.length := by rw [HS64.out]; exact hpp
        have hro := rot_ok hS.d1 k hkK2 p (1 + m) hpp (by omega) s[p] (by show K2[k][p]? = _; rw [HGK.out]; exact List.getElem?_eq_getElem hps)
        dsimp only at hro
        rw [HGK.out] at hro
        have hcr := crc_turned s p s[p] (List.getElem?_eq_getElem hps) (1 + m) (by omega) (by omega)
        have hul : (s.set p (s[p] ^^^ UInt8.ofNat (1 + m))).length = 64 := by rw [List.length_set]; exact HS64.out
        generalize s.set p (s[p] ^^^ UInt8.ofNat (1 + m)) = u at hro hcr hul
        rw [show ((1 + m : Nat) : Int) = 1 + (m : Int) from by omega] at hro
        have HRO := Lib.hid hro
        have HUL := Lib.hid hul
        clear hro hul
        go_wp2_with fail
        refine HRO.out.mono ?_
        rintro x v7 ⟨rfl, hd⟩
        replace hS := hS.do1 hd
        clear hd HRO
        go_wp2_with fail
        have hk3 : k < (K2.set k u).length := by rw [List.length_set]; exact hkK2
        have hr3 := read1 hS.d1 k hk3 (by simp)
        rw [show (layW (K2.set k u) [])[k]'(by rw [layW_length]; exact hk3) = u from List.getElem_set_self hk3] at hr3
        have HR3 := Lib.hid hr3
        clear hr3
        refine HR3.out.mono ?_
        rintro x v8 ⟨rfl, hb⟩
        replace hS := hS.below hb
        clear hb HR3
        have hsu := fun W => sum_any ⟨s.toArray⟩ (by show s.toArray.size ≤ _; rw [List.size_toArray, HS64.out]; decide) W
        have huu := fun W => sum_any ⟨u.toArray⟩ (by show u.toArray.size ≤ _; rw [List.size_toArray, HUL.out]; decide) W
        simp only [List.toList_toArray] at hsu huu
        generalize crc s = cs at hcr hsu
        generalize crc u = cu at hcr huu
        have d5 : ((cu : Int) == (cs : Int)) = false := by rw [beq_eq_false_iff_ne]; omega
        have d6 : ((cu : Int) != (cs : Int)) = true := by rw [bne, d5]; rfl
        have HSU := Lib.hid hsu
        have HUU := Lib.hid huu
        clear hsu huu hcr
        go_wp2_with fail
        refine (HSU.out _).mono ?_
        rintro x v9 ⟨rfl, hb⟩
        replace hS := hS.below hb
        clear hb
        go_wp2_with fail
        refine (HSU.out _).mono ?_
        rintro x v9 ⟨rfl, hb⟩
        replace hS := hS.below hb
        clear hb
        go_wp2_with fail
        refine (HUU.out _).mono ?_
        rintro x v9 ⟨rfl, hb⟩
        replace hS := hS.below hb
        clear hb
        go_wp2_with fail
        refine (HSU.out _).mono ?_
        rintro x v9 ⟨rfl, hb⟩
        replace hS := hS.below hb
        clear hb
        go_wp2_with fail
        go_ret
        exact ⟨rfl, hS.2⟩
end Go.Proofs.Ytepdncpgcpndoaa

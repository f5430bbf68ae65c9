/- The walk of DiskAllNone. -/
import Derived.Test.YtepdncpgcpndoaaDiskAwake
namespace Go.Proofs.Ytepdncpgcpndoaa
open Go Go.RowKit Wire

theorem keep_first {α : Type} (l : List α) : ∀ m, m ≤ l.length → (List.range m).filterMap (fun x => l[x]?) = l.take m
  | 0, _ => rfl
  | m + 1, h => by
    rw [List.range_succ, List.filterMap_append, keep_first l m (by omega), List.take_succ_eq_append_getElem (by omega)]
    simp [List.getElem?_eq_getElem (show m < l.length by omega)]
theorem keep_all {α : Type} (l : List α) : (List.range l.length).filterMap (fun x => l[x]?) = l := by
  rw [keep_first l _ (Nat.le_refl _), List.take_of_length_le (Nat.le_refl _)]
theorem ints_snoc (k : Nat) : ints (List.range k) ++ [Value.int .i64 (k : Int)] = ints (List.range (k + 1)) := by
  rw [List.range_succ]; simp [ints]

set_option maxRecDepth 100000 in
set_option maxHeartbeats 8000000 in
theorem diskAllNone_walk (b0 : Option Addr) (n0 c0 : Nat) (ss : List Cl) (b1 : Option Addr) (n1 c1 : Nat) (ps : List Cl) (w : World)
    (hn0 : ss.length = n0) (_ : n0 ≤ c0) (_ : c0 ≤ maxLen) (hs : Lies w (.slice b0 n0 c0) n0 6 (ss.flatMap Cl.cells)) (hsg : ∀ c ∈ ss, c.good)
    (hn1 : ps.length = n1) (_ : n1 ≤ c1) (_ : c1 ≤ maxLen) (hp : Lies w (.slice b1 n1 c1) n1 6 (ps.flatMap Cl.cells)) (hpg : ∀ c ∈ ps, c.good) :
    Calls Try.prog 4 #[.slice b0 n0 c0, .slice b1 n1 c1] w fun x w' => x = .returned (.bool true) ∧ Below w.heap.size w w' := by
  subst hn0 hn1
  obtain ⟨i0, hi0, hz0, hz1, hz2⟩ := info_parts infoInt
  have hF : ∀ W L, St w L W → Calls Try.prog 12 #[.slice b0 ss.length c0, .slice b1 ps.length c1] W fun x W' => ∃ r kb qv, x = .returned (.pointer (some ⟨r, 0, none⟩)) ∧ St w (L ++ [⟨r, kb, qv, ⟨layW (zeros 6).kept (writes ss), writes ps, false, 0⟩⟩]) W' := fun W L h => fill1 h _ _ ss ps hs hp hsg hpg
  have hG : ∀ W L, St w L W → Calls Try.prog 12 #[.slice b0 ss.length c0, .slice none 0 0] W fun x W' => ∃ r kb qv, x = .returned (.pointer (some ⟨r, 0, none⟩)) ∧ St w (L ++ [⟨r, kb, qv, ⟨layW (zeros 6).kept (writes ss), [], false, 0⟩⟩]) W' := fun W L h => fill0 h _ ss hs hsg
  have hpl := writes_len ps
  have hka := keep_all (writes ps)
  generalize layW (zeros 6).kept (writes ss) = K at hF hG
  generalize writes ps = P at hF hpl hka
  have HF := Lib.hid hF
  have HG := Lib.hid hG
  have HKA := Lib.hid hka
  clear hF hG hs hp hsg hpg hka
  have h0 := St.nil w
  go_enter Try.func4, Try.ntmps4
  go_wp2_with fail
  refine (awake_any w).mono ?_
  rintro x w1 ⟨rfl, hb⟩
  have hS := h0.below hb
  clear h0 hb
  go_wp2_with fail
  refine (HF.out _ _ hS).mono ?_
  rintro x w2 ⟨r1, k1, q1, rfl, hS⟩
  go_wp2_with fail
  refine (HF.out _ _ hS).mono ?_
  rintro x w3 ⟨r2, k2, q2, rfl, hS⟩
  go_wp2_with fail
  refine (HF.out _ _ hS).mono ?_
  rintro x w4 ⟨r3, k3, q3, rfl, hS⟩
  replace hS : St w [⟨r1, k1, q1, ⟨K, P, false, 0⟩⟩, ⟨r2, k2, q2, ⟨K, P, false, 0⟩⟩, ⟨r3, k3, q3, ⟨K, P, false, 0⟩⟩] w4 := hS
  go_wp2_with fail
  refine (all1 hS.d1 (by omega)).mono ?_
  rintro x w5 ⟨rfl, hb⟩
  replace hS := hS.below hb
  clear hb
  obtain ⟨T, hT⟩ : ∃ T : ByteArray, T = ⟨(layW K P).flatten.toArray⟩ := ⟨_, rfl⟩
  rw [← hT]
  have HT := Lib.hid hT
  clear hT
  go_wp2_with fail
  have hst : St w [⟨r1, k1, q1, ⟨K, P, false, 0⟩⟩, ⟨r2, k2, q2, ⟨K, P, false, 0⟩⟩, ⟨r3, k3, q3, ⟨K, P, false, 0⟩⟩] w5 ∧ w5.ownsRow w.heap.size 3 1 (.slice none 0 0) 0 (ints (List.range 0)) := ⟨hS, World.ownsRow_nil _ _ _ _⟩
  clear hS
  go_loopw [10, 11] (fun v i wr => ∃ k : Nat, k ≤ P.length ∧ i = .int .i64 (k : Int) ∧ St w [⟨r1, k1, q1, ⟨K, P, false, 0⟩⟩, ⟨r2, k2, q2, ⟨K, P, false, 0⟩⟩, ⟨r3, k3, q3, ⟨K, P, false, 0⟩⟩] wr ∧ wr.ownsRow w.heap.size 3 1 v k (ints (List.range k))) (fun _ i _ => 8 - (intOf i).toNat)
  case atStart => exact ⟨0, Nat.zero_le _, rfl, hst⟩
  case round =>
    obtain ⟨k, hk, rfl, hS, hown⟩ := hrel
    clear hst
    have hpe := pending_any hS.d1
    dsimp only at hpe
    by_cases hlt : k < P.length
    · have d1 : decide (k < P.length) = true := decide_eq_true hlt
      have d2 : decide ((k : Int) < 8) = true := decide_eq_true (by omega)
      have HS := Lib.hid hS
      have HPE := Lib.hid hpe
      clear hpe
      go_wp2_with fail
      refine HPE.out.mono ?_
      rintro x v' ⟨rfl, rfl⟩
      clear HPE
      have hnb : (wr.alloc (.cells #[.int .i64 (k : Int)] 3)).heap[wr.heap.size]? = some (.cells #[.int .i64 (k : Int)] 3 (0, 0)) := World.alloc_heap_new wr _
      have hSa := hS.alloc (.cells #[.int .i64 (k : Int)] 3)
      have howna := hown.alloc (.cells #[.int .i64 (k : Int)] 3)
      have HSA := Lib.hid hSa
      have HOW := Lib.hid howna
      have HNB := Lib.hid hnb
      clear hS hown hnb hSa howna
      go_wp2_with (at_builtin; refine wpList_append_lies _ rfl _ _ _ rfl w.heap.size 3 i0 _ 1 8 Try.underlying23 hi0 hz0 hz1 hz2 rfl (by omega) _ k _ rfl HOW.out ⟨wr.heap.size, 0, none⟩ 1 1 [.int .i64 (k : Int)] rfl rfl (World.news_of_block (cs := #[.int .i64 (k : Int)]) (t := 3) (fr := (0, 0)) HNB.out) (by simp [Value.oneCell']) (by omega) (by simp [maxLen]; omega) (by omega) HSA.out.hz _ rfl ?_; intro gg cap w2 hown1 hgrow hat hlt2)
      have hS2 := HSA.out.grown hgrow (fun q hq => by
        obtain ⟨h1, cur, h2⟩ := owned_block HOW.out hq
        exact ⟨h1, cur, _, h2, by decide, by decide, by decide⟩)
      rw [ints_snoc] at hown1
      exact ⟨⟨k + 1, by omega, by go_num, hS2, hown1⟩, by simp [intOf]; omega⟩
    · obtain rfl : k = P.length := by omega
      have d1 : decide (P.length < P.length) = false := decide_eq_false (by omega)
      have HPE := Lib.hid hpe
      clear hpe
      go_wp2_with fail
      refine HPE.out.mono ?_
      rintro x v' ⟨rfl, rfl⟩
      clear HPE
      go_wp2_with fail
      refine (crash1 hS.d1 hS.hz (by omega) _ (List.range P.length) (by simp; omega) (by rw [List.length_range]; exact hown) (by simp) List.nodup_range).mono ?_
      rintro x v ⟨rfl, hd⟩
      rw [HKA.out] at hd
      replace hS := hS.do1 hd
      clear hd hown
      go_wp2_with fail
      refine (crash0 hS.d2 hS.hz (by omega)).mono ?_
      rintro x v ⟨rfl, hd⟩
      replace hS := hS.do2 hd
      clear hd
      go_wp2_with fail
      refine (sync1 hS.d3 hS.hz (by omega)).mono ?_
      rintro x v ⟨rfl, hd⟩
      replace hS := hS.do3 hd
      clear hd
      go_wp2_with fail
      refine (crash0 hS.d3 hS.hz (by simp)).mono ?_
      rintro x v ⟨rfl, hd⟩
      replace hS := hS.do3 hd
      clear hd
      go_wp2_with fail
      refine (all1 hS.d1 (by simp)).mono ?_
      rintro x v ⟨rfl, hb⟩
      replace hS := hS.below hb
      clear hb
      rw [show (⟨(layW (layW K P) []).flatten.toArray⟩ : ByteArray) = T from HT.out.symm]
      go_wp2_with fail
      refine (all1 hS.d2 (by simp)).mono ?_
      rintro x v ⟨rfl, hb⟩
      replace hS := hS.below hb
      clear hb
      obtain ⟨T0, hT0⟩ : ∃ T0 : ByteArray, T0 = ⟨K.flatten.toArray⟩ := ⟨_, rfl⟩
      have HT0 := Lib.hid hT0
      rw [show (⟨(layW K []).flatten.toArray⟩ : ByteArray) = T0 from hT0.symm]
      clear hT0
      go_wp2_with fail
      refine (HG.out _ _ hS).mono ?_
      rintro x v ⟨r4, k4, q4, rfl, hS4⟩
      replace hS4 := hS4.tail.tail
      go_wp2_with fail
      refine (all1 hS4.d2 (by simp)).mono ?_
      rintro x v ⟨rfl, hb⟩
      replace hS4 := hS4.below hb
      clear hb
      rw [show (⟨(layW K []).flatten.toArray⟩ : ByteArray) = T0 from HT0.out.symm]
      go_wp2_with fail
      refine (all1 hS4.d1 (by simp)).mono ?_
      rintro x v ⟨rfl, hb⟩
      replace hS4 := hS4.below hb
      clear hb
      rw [show (⟨(layW (layW K P) []).flatten.toArray⟩ : ByteArray) = T from HT.out.symm]
      go_wp2_with fail
      go_ret
      exact ⟨rfl, hS4.2⟩
end Go.Proofs.Ytepdncpgcpndoaa

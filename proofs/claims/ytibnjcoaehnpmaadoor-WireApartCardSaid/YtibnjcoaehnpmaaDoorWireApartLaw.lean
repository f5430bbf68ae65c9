/- The walk of WireApart. -/
import Derived.Test.YtibnjcoaehnpmaaDoorWireShown
import Derived.Test.YtibnjcoaehnpmaaDoorWireCrcMore
import Derived.Deep.RegionHeld3
namespace Go.Proofs.YtibnjcoaehnpmaaDoor
open Go Go.RowKit Go.Shelf Go.Sort

theorem apart_text {S T : ByteArray} {k : Nat} (hk : k < S.size) {b : UInt8} (hT : S.extract 0 k ++ { data := #[b] } ++ S.extract (k + 1) S.size = T) :
    T.size = S.size ∧ (T = S ∨ (¬ S = T ∧ ¬ Wire.crc S.data.toList = Wire.crc T.data.toList)) := by
  have hl : k < S.data.toList.length := by simpa using hk
  obtain ⟨p, r, x, e1, e2⟩ : ∃ p r x, T.data.toList = p ++ [b] ++ r ∧ S.data.toList = p ++ [x] ++ r := by
    refine ⟨S.data.toList.take k, S.data.toList.drop (k + 1), S.data.toList[k], ?_, ?_⟩
    · rw [← hT]
      simp
      exact List.take_of_length_le (by simp)
    · rw [List.append_assoc, List.singleton_append, ← List.drop_eq_getElem_cons hl, List.take_append_drop]
  have hs : T.size = S.size := by
    have h1 := congrArg List.length e1
    have h2 := congrArg List.length e2
    have h3 : S.data.toList.length = S.size := by simp
    have h4 : T.data.toList.length = T.size := by simp
    rw [h4] at h1
    rw [h3] at h2
    simp at h1 h2
    omega
  refine ⟨hs, ?_⟩
  by_cases hb : b = x
  · left
    apply ByteArray.ext
    apply Array.toList_inj.1
    rw [e1, e2, hb]
  · right
    refine ⟨fun h => ?_, fun h => ?_⟩
    · rw [← h, e2] at e1
      have := List.append_cancel_left (List.append_cancel_right e1)
      exact hb (by simpa using this.symm)
    · rw [e1, e2] at h
      exact hb (Wire.crc_byte h).symm

theorem one_string (b : UInt8) (w : World) : (convert 29 9 (.slice (some ⟨w.heap.size, 0, none⟩) 1 1)).run Tryd.prog (w.alloc (.cells #[.int .u8 (b.toNat : Int)] 5)).drew =
    .ok (.string ⟨#[b]⟩) (w.alloc (.cells #[.int .u8 (b.toNat : Int)] 5)).drew := by
  have := run_convert_bytes_back (P := Tryd.prog) (w.alloc (.cells #[.int .u8 (b.toNat : Int)] 5)).drew 29 9 5 ⟨w.heap.size, 0, none⟩ 1 [b] Tryd.underlying29 Tryd.underlying5 Tryd.underlying9 (fun j hj => by
    obtain rfl : j = 0 := by simpa using hj
    exact cell_of_row _ w.heap.size 0 #[.int .u8 (b.toNat : Int)] 5 (0, 0) (World.alloc_heap_new w _))
  exact this

set_option maxRecDepth 100000 in
set_option maxHeartbeats 4000000 in
theorem wireApart_walk (s : ByteArray) (a c : Int) (hs : s.size ≤ maxLen) (ha : -9223372036854775808 ≤ a ∧ a ≤ 9223372036854775807) (hc : 0 ≤ c ∧ c ≤ 255) (ea : Addr) (w : World) (hE : errLies ea w) :
    Calls Tryd.prog 4 #[.string s, .int .i64 a, .int .u8 c] w fun e w' => e = .returned (.bool true) ∧ Below w.heap.size w w' := by
  unfold maxLen at hs
  by_cases h0 : a < 0
  · go_enter Tryd.func4, Tryd.ntmps4
    go_wp2_with fail
    refine (shown_any ea w hE).mono ?_
    rintro e w1 ⟨rfl, hB⟩
    go_wp2_with fail
    all_goals go_ret
    all_goals exact ⟨rfl, hB⟩
  by_cases h1 : (min s.size 300 : Nat) ≤ a
  · go_enter Tryd.func4, Tryd.ntmps4
    go_wp2_with fail
    refine (shown_any ea w hE).mono ?_
    rintro e w1 ⟨rfl, hB⟩
    go_wp2_with fail
    all_goals go_ret
    all_goals exact ⟨rfl, hB⟩
  obtain ⟨b, rfl⟩ : ∃ b : UInt8, c = (b.toNat : Int) := ⟨UInt8.ofNat c.toNat, by rw [Wire.ofNat_toNat (by omega)]; omega⟩
  obtain ⟨k, rfl⟩ : ∃ k : Nat, a = (k : Int) := ⟨a.toNat, by omega⟩
  have hcv := one_string b
  by_cases hm : 300 < s.size
  · have d1 : decide ((k : Int) < 0) = false := decide_eq_false (by omega)
    have d2 : decide (min 300 s.size ≤ k) = false := decide_eq_false (by omega)
    go_enter Tryd.func4, Tryd.ntmps4
    go_wp2_with fail
    refine (shown_any ea w hE).mono ?_
    rintro e w1 ⟨rfl, hB⟩
    go_wp2_with fail
    generalize hSe : s.extract 0 300 = S
    have hSz : S.size = 300 := by rw [← hSe]; simp; omega
    have hk : k < S.size := by omega
    have hS3 : S.size ≤ 300 := by omega
    clear hSe d1 d2 hSz h1 hm h0 ha hs
    have f1 : (0 : Int) ≤ (k : Int) := by omega
    have f2 : (k : Int) ≤ (S.size : Int) := by omega
    have f2' : k ≤ S.size := by omega
    have f3 : IntKind.i64.wrap ((k : Int) + 1) = (k : Int) + 1 := IntWalk.i64_in _ (by omega)
    have f4 : (k : Int) + 1 ≤ (S.size : Int) := by omega
    have f4' : k + 1 ≤ S.size := by omega
    have f6 : (0 : Int) ≤ (k : Int) + 1 := by omega
    have f5 : ((k : Int) + 1).toNat = k + 1 := by omega
    go_region
    generalize hT : S.extract 0 k ++ { data := #[b] } ++ S.extract (k + 1) S.size = T
    obtain ⟨hTs, hor⟩ := apart_text hk hT
    have hTs' : T.size ≤ 300 := by omega
    clear hT hTs hcv f3 f5
    replace hB : Below w.heap.size w (w1.alloc (.cells #[.int .u8 (b.toNat : Int)] 5)).drew := (hB.alloc hB.size _).drew
    generalize (w1.alloc (.cells #[.int .u8 (b.toNat : Int)] 5)).drew = w2 at hB ⊢
    go_wp2_with fail
    rcases hor with rfl | ⟨hne, hne'⟩
    · refine (sum_any _ (by omega) _).mono ?_
      rintro e w3 ⟨rfl, hB'⟩
      replace hB := hB.trans (hB'.mono hB.size); clear hB'
      generalize hca : Wire.crc _ = ca
      have la : decide ((ca : Int) < 4294967296) = true := decide_eq_true (by have : ca < 4294967296 := hca ▸ Wire.crc_lt _; omega)
      have HA := Lib.hid hca; clear hca
      go_wp2_with fail
      refine (sum_any _ (by omega) _).mono ?_
      rintro e w4 ⟨rfl, hB'⟩
      replace hB := hB.trans (hB'.mono hB.size); clear hB'
      rw [HA.out]
      go_wp2_with fail
      go_ret
      exact ⟨rfl, hB⟩
    · refine (sum_any _ (by omega) _).mono ?_
      rintro e w3 ⟨rfl, hB'⟩
      replace hB := hB.trans (hB'.mono hB.size); clear hB'
      generalize hca : Wire.crc _ = ca
      have la : decide ((ca : Int) < 4294967296) = true := decide_eq_true (by have : ca < 4294967296 := hca ▸ Wire.crc_lt _; omega)
      rw [hca] at hne'
      have HA := Lib.hid hca; clear hca
      go_wp2_with fail
      refine (sum_any _ (by omega) _).mono ?_
      rintro e w4 ⟨rfl, hB'⟩
      replace hB := hB.trans (hB'.mono hB.size); clear hB'
      generalize hcb : Wire.crc _ = cb
      rw [hcb] at hne'
      have HC := Lib.hid hcb; clear hcb
      go_wp2_with fail
      go_ret
      have q1 : ((ca : Int) == (cb : Int)) = false := by rw [beq_eq_false_iff_ne]; omega
      have q2 : (S.toList == T.toList) = false := by
        rw [beq_eq_false_iff_ne]
        intro h
        rw [Lib.toList_data, Lib.toList_data] at h
        exact hne (ByteArray.ext (Array.toList_inj.1 h))
      exact ⟨by simp [q1, q2], hB⟩
  · have d1 : decide ((k : Int) < 0) = false := decide_eq_false (by omega)
    have d2 : decide (s.size ≤ k) = false := decide_eq_false (by omega)
    go_enter Tryd.func4, Tryd.ntmps4
    go_wp2_with fail
    refine (shown_any ea w hE).mono ?_
    rintro e w1 ⟨rfl, hB⟩
    go_wp2_with fail
    obtain ⟨S, rfl⟩ : ∃ S, S = s := ⟨_, rfl⟩
    have hk : k < S.size := by omega
    have hS3 : S.size ≤ 300 := by omega
    clear d1 d2 h1 hm h0 ha hs
    have f1 : (0 : Int) ≤ (k : Int) := by omega
    have f2 : (k : Int) ≤ (S.size : Int) := by omega
    have f2' : k ≤ S.size := by omega
    have f3 : IntKind.i64.wrap ((k : Int) + 1) = (k : Int) + 1 := IntWalk.i64_in _ (by omega)
    have f4 : (k : Int) + 1 ≤ (S.size : Int) := by omega
    have f4' : k + 1 ≤ S.size := by omega
    have f6 : (0 : Int) ≤ (k : Int) + 1 := by omega
    have f5 : ((k : Int) + 1).toNat = k + 1 := by omega
    go_region
    generalize hT : S.extract 0 k ++ { data := #[b] } ++ S.extract (k + 1) S.size = T
    obtain ⟨hTs, hor⟩ := apart_text hk hT
    have hTs' : T.size ≤ 300 := by omega
    clear hT hTs hcv f3 f5
    replace hB : Below w.heap.size w (w1.alloc (.cells #[.int .u8 (b.toNat : Int)] 5)).drew := (hB.alloc hB.size _).drew
    generalize (w1.alloc (.cells #[.int .u8 (b.toNat : Int)] 5)).drew = w2 at hB ⊢
    go_wp2_with fail
    rcases hor with rfl | ⟨hne, hne'⟩
    · refine (sum_any _ (by omega) _).mono ?_
      rintro e w3 ⟨rfl, hB'⟩
      replace hB := hB.trans (hB'.mono hB.size); clear hB'
      generalize hca : Wire.crc _ = ca
      have la : decide ((ca : Int) < 4294967296) = true := decide_eq_true (by have : ca < 4294967296 := hca ▸ Wire.crc_lt _; omega)
      have HA := Lib.hid hca; clear hca
      go_wp2_with fail
      refine (sum_any _ (by omega) _).mono ?_
      rintro e w4 ⟨rfl, hB'⟩
      replace hB := hB.trans (hB'.mono hB.size); clear hB'
      rw [HA.out]
      go_wp2_with fail
      go_ret
      exact ⟨rfl, hB⟩
    · refine (sum_any _ (by omega) _).mono ?_
      rintro e w3 ⟨rfl, hB'⟩
      replace hB := hB.trans (hB'.mono hB.size); clear hB'
      generalize hca : Wire.crc _ = ca
      have la : decide ((ca : Int) < 4294967296) = true := decide_eq_true (by have : ca < 4294967296 := hca ▸ Wire.crc_lt _; omega)
      rw [hca] at hne'
      have HA := Lib.hid hca; clear hca
      go_wp2_with fail
      refine (sum_any _ (by omega) _).mono ?_
      rintro e w4 ⟨rfl, hB'⟩
      replace hB := hB.trans (hB'.mono hB.size); clear hB'
      generalize hcb : Wire.crc _ = cb
      rw [hcb] at hne'
      have HC := Lib.hid hcb; clear hcb
      go_wp2_with fail
      go_ret
      have q1 : ((ca : Int) == (cb : Int)) = false := by rw [beq_eq_false_iff_ne]; omega
      have q2 : (S.toList == T.toList) = false := by
        rw [beq_eq_false_iff_ne]
        intro h
        rw [Lib.toList_data, Lib.toList_data] at h
        exact hne (ByteArray.ext (Array.toList_inj.1 h))
      exact ⟨by simp [q1, q2], hB⟩
end Go.Proofs.YtibnjcoaehnpmaaDoor

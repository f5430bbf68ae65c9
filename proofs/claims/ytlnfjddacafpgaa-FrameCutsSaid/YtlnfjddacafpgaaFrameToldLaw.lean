/- The walk of FrameTold. -/
import Derived.Test.YtlnfjddacafpgaaFrameExamples
import Derived.Test.YtlnfjddacafpgaaFrameOf
import Derived.Deep.RegionHeld3
namespace Go.Proofs.Ytlnfjddacafpgaa
open Go Go.RowKit Wire

theorem one_string (b : UInt8) (w : World) : (convert 30 9 (.slice (some ⟨w.heap.size, 0, none⟩) 1 1)).run Try.prog (w.alloc (.cells #[.int .u8 (b.toNat : Int)] 5)).drew =
    .ok (.string ⟨#[b]⟩) (w.alloc (.cells #[.int .u8 (b.toNat : Int)] 5)).drew := by
  have := run_convert_bytes_back (P := Try.prog) (w.alloc (.cells #[.int .u8 (b.toNat : Int)] 5)).drew 30 9 5 ⟨w.heap.size, 0, none⟩ 1 [b] Try.underlying30 Try.underlying5 Try.underlying9 (fun j hj => by
    obtain rfl : j = 0 := by simpa using hj
    exact cell_of_row _ w.heap.size 0 #[.int .u8 (b.toNat : Int)] 5 (0, 0) (World.alloc_heap_new w _))
  exact this

theorem right_len {e a k : Int} {t : List UInt8} (h : Frame.right e a k t = true) : t.length ≤ 53 := by
  unfold Frame.right at h; simp at h; exact h.2.2.2.2.2.2

/-- what of a frame's raw text a right one bears -/
theorem few_right (e a k : Int) (s : ByteArray) : Frame.right (1 + Frame.pickOf e 16777215 : Nat) (Frame.pickOf a 64 : Nat) (1 + Frame.pickOf k 4 : Nat) (if 53 < s.size then s.extract 0 53 else s).data.toList = true := by
  have p1 := Frame.pickOf_lt e (n := 16777215) (by decide)
  have p2 := Frame.pickOf_lt a (n := 64) (by decide)
  have p3 := Frame.pickOf_lt k (n := 4) (by decide)
  have hl : (if 53 < s.size then s.extract 0 53 else s).data.toList.length ≤ 53 := by
    have hz : ∀ t : ByteArray, t.data.toList.length = t.size := fun t => by simp
    rw [hz]
    split
    · rw [ByteArray.size_extract]; omega
    · omega
  unfold Frame.right
  simp
  refine ⟨?_, ?_, ?_, ?_, ?_, ?_⟩ <;> first | omega | (simpa using hl)

theorem turn_byte (x : UInt8) (m : Nat) : ∃ b : UInt8, IntKind.u8.wrap (IntKind.u8.wrap ((x.toNat : Int) + 1) + ((m : Int)).tmod 255) = (b.toNat : Int) ∧ ((x.toNat : Int) + 1 + (m : Int) % 255) % 256 = (b.toNat : Int) ∧ x ≠ b := by
  have hx := x.toNat_lt
  have ht : ((m : Int)).tmod 255 = ((m % 255 : Nat) : Int) := by rw [Int.tmod_eq_emod_of_nonneg (by omega)]; omega
  have hw : ∀ z : Int, IntKind.u8.wrap z = z % 256 := fun z => rfl
  refine ⟨UInt8.ofNat ((x.toNat + 1 + m % 255) % 256), ?_, ?_, ?_⟩
  · rw [ht, hw, hw, Frame.ofNat_toNat (Nat.mod_lt _ (by decide))]
    omega
  · rw [Frame.ofNat_toNat (Nat.mod_lt _ (by decide))]
    omega
  · intro h
    have h' := congrArg UInt8.toNat h
    rw [Frame.ofNat_toNat (Nat.mod_lt _ (by decide))] at h'
    omega
theorem set_text (L : List UInt8) (b : UInt8) {n : Nat} (h : n < L.length) : (⟨L.toArray⟩ : ByteArray).extract 0 n ++ ({ data := #[b] } : ByteArray) ++ (⟨L.toArray⟩ : ByteArray).extract (n + 1) (⟨L.toArray⟩ : ByteArray).size = ⟨(L.set n b).toArray⟩ := by
  apply ByteArray.ext
  apply Array.toList_inj.1
  have hz : (⟨L.toArray⟩ : ByteArray).size = L.length := List.size_toArray
  rw [Frame.set_split b h, hz]
  simp
  exact List.take_of_length_le (by simp)

set_option maxRecDepth 100000 in
set_option maxHeartbeats 4000000 in
theorem frameTold_walk (e a k : Int) (s : ByteArray) (at' by' : Int) (he : -9223372036854775808 ≤ e ∧ e ≤ 9223372036854775807) (ha : -9223372036854775808 ≤ a ∧ a ≤ 9223372036854775807) (hk : -9223372036854775808 ≤ k ∧ k ≤ 9223372036854775807) (hs : s.size ≤ maxLen) (hat : 0 ≤ at' ∧ at' ≤ 255) (hby : 0 ≤ by' ∧ by' ≤ 255) (w : World) :
    Calls Try.prog 6 #[frameV e a k s, .int .u8 at', .int .u8 by'] w fun x w' => x = .returned (.bool true) ∧ Below w.heap.size w w' := by
  have hof := frameOf_any e a k s he ha hk hs
  have hr := few_right e a k s
  generalize (if 53 < s.size then s.extract 0 53 else s) = T at hof hr
  obtain ⟨E, hE⟩ : ∃ E, E = 1 + Frame.pickOf e 16777215 := ⟨_, rfl⟩
  obtain ⟨A, hA⟩ : ∃ A, A = Frame.pickOf a 64 := ⟨_, rfl⟩
  obtain ⟨K, hK⟩ : ∃ K, K = 1 + Frame.pickOf k 4 := ⟨_, rfl⟩
  rw [← hE, ← hA, ← hK] at hof hr
  clear hE hA hK he ha hk hs
  have hlay := lay_good E A K T hr
  have hTl : T.data.toList.length ≤ 53 := by
    exact right_len hr
  have hLl := Frame.lay_length E A K T.data.toList hTl
  obtain ⟨j, rfl⟩ : ∃ j : Nat, at' = (j : Int) := ⟨at'.toNat, by omega⟩
  obtain ⟨m, rfl⟩ : ∃ m : Nat, by' = (m : Int) := ⟨by'.toNat, by omega⟩
  have hturn : ∀ x : UInt8, (Frame.lay E A K T.data.toList)[j % 64]? ≠ some x → ∀ w, Calls Try.prog 26 #[.string ⟨((Frame.lay E A K T.data.toList).set (j % 64) x).toArray⟩] w fun x w' => x = noFrame ∧ Below w.heap.size w w' := fun x hx w =>
    read_none _ (fun e' a' k' t' hr' h => Frame.lay_turned hTl (Nat.mod_lt _ (by decide)) hx (right_len hr') h.symm) w
  generalize Frame.lay E A K T.data.toList = L at hlay hLl hturn
  have HOF := Lib.hid hof; clear hof
  have HLAY := Lib.hid hlay; clear hlay
  have HTURN := Lib.hid hturn; clear hturn
  have hm : j % 64 < 64 := Nat.mod_lt _ (by decide)
  obtain ⟨n, hn⟩ : ∃ n, n = j % 64 := ⟨_, rfl⟩
  have HN := Lib.hid hn
  have hni : (j : Int) % 64 = (n : Int) := by omega
  rw [← hn] at hm HTURN
  clear hn hr
  have hLz : (⟨L.toArray⟩ : ByteArray).size = 64 := by rw [← hLl]; exact List.size_toArray
  generalize hS : (⟨L.toArray⟩ : ByteArray) = S at hLz HLAY
  have hsk : n < S.size := by omega
  have hS1 : S.size ≤ 64 := by omega
  have hS2 : decide (S.size < 64) = false := decide_eq_false (by omega)
  have HLZ := Lib.hid hLz; clear hLz
  have HS := Lib.hid hS; clear hS
  have HLL := Lib.hid hLl; clear hLl
  go_enter Try.func6, Try.ntmps6
  go_wp2_with fail
  refine (examples_any _).mono ?_
  rintro x w1 ⟨rfl, hB⟩
  have hbx : w1.heap[w.heap.size]? = some (.cells #[.int .i64 e, .int .i64 a, .int .i64 k, .string s] 23 (0, 0)) := (hB.block _ (by simp)).trans (World.alloc_heap_new w _)
  replace hB : Below w.heap.size w w1 := ((Below.refl _ _).alloc (Nat.le_refl _) _).trans (hB.mono (by simp))
  have c0 : w1.cell? ⟨w.heap.size, 0, none⟩ = some (.int .i64 e) := cell_of_row _ _ 0 _ _ (0, 0) hbx
  have c1 : w1.cell? ⟨w.heap.size, 1, none⟩ = some (.int .i64 a) := cell_of_row _ _ 1 _ _ (0, 0) hbx
  have c2 : w1.cell? ⟨w.heap.size, 2, none⟩ = some (.int .i64 k) := cell_of_row _ _ 2 _ _ (0, 0) hbx
  have c3 : w1.cell? ⟨w.heap.size, 3, none⟩ = some (.string s) := cell_of_row _ _ 3 _ _ (0, 0) hbx
  clear hbx
  go_wp2_with fail
  clear c0 c1 c2 c3
  refine (HOF.out _).mono ?_
  rintro x w2 ⟨rfl, hB'⟩
  replace hB := hB.trans (hB'.mono hB.size); clear hB'
  go_wp2_with fail
  refine (HLAY.out _).mono ?_
  rintro x w3 ⟨rfl, hB'⟩
  replace hB := hB.trans (hB'.mono hB.size); clear hB'
  have hll := HLZ.out
  go_wp2_with fail
  rw [hni]
  clear hll hni hat
  have f1 : (0 : Int) ≤ (n : Int) := by omega
  have f2 : (n : Int) ≤ (S.size : Int) := by omega
  have f2' : n ≤ S.size := by omega
  have f3 : IntKind.i64.wrap ((n : Int) + 1) = (n : Int) + 1 := IntWalk.i64_in _ (by omega)
  have f4 : (n : Int) + 1 ≤ (S.size : Int) := by omega
  have f4' : n + 1 ≤ S.size := by omega
  have f6 : (0 : Int) ≤ (n : Int) + 1 := by omega
  have f5 : ((n : Int) + 1).toNat = n + 1 := by omega
  have hne : ∃ b : UInt8, IntKind.u8.wrap (IntKind.u8.wrap ((S[n].toNat : Int) + 1) + ((m : Int)).tmod 255) = (b.toNat : Int) ∧ ((S[n].toNat : Int) + 1 + (m : Int) % 255) % 256 = (b.toNat : Int) ∧ S[n] ≠ b := turn_byte S[n] m
  obtain ⟨b, hb, hb2, hnb⟩ := hne
  have hcv := one_string b
  have hset : S.extract 0 n ++ ({ data := #[b] } : ByteArray) ++ S.extract (n + 1) S.size = ⟨(L.set n b).toArray⟩ := by
    rw [← HS.out]
    exact set_text L b (by rw [HLL.out]; omega)
  have hnx : L[n]? ≠ some b := by
    rw [List.getElem?_eq_getElem (by rw [HLL.out]; omega)]
    intro h
    apply hnb
    have hx := Option.some.inj h
    rw [← hx]
    simp [← HS.out]
    rfl
  have HNX := Lib.hid hnx
  clear hnx hnb
  go_region
  clear hset hb hb2 f3 f5 hcv
  replace hB : Below w.heap.size w (w3.alloc (.cells #[.int .u8 (b.toNat : Int)] 5)).drew := (hB.alloc hB.size _).drew
  generalize (w3.alloc (.cells #[.int .u8 (b.toNat : Int)] 5)).drew = w4 at hB ⊢
  go_wp2_with fail
  refine (HTURN.out b HNX.out _).mono ?_
  rintro x w5 ⟨rfl, hB'⟩
  replace hB := hB.trans (hB'.mono hB.size); clear hB'
  go_wp2_with fail
  go_ret
  exact ⟨by simp, hB.alloc hB.size _⟩
end Go.Proofs.Ytlnfjddacafpgaa

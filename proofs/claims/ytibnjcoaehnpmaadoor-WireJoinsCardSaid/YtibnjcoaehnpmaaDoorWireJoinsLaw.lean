/- The walk of WireJoins. -/
import Derived.Test.YtibnjcoaehnpmaaDoorWireShown
namespace Wire
/-- numbers, one behind the other -/
def joined (l : List Int) : List UInt8 := l.flatMap num
theorem joined_succ {l : List Int} {k : Nat} (h : k < l.length) : joined (l.take (k + 1)) = joined (l.take k) ++ num l[k] := by
  unfold joined
  rw [List.take_succ_eq_append_getElem h, List.flatMap_append]
  simp
theorem joined_split {l : List Int} {k m : Nat} (h : k < l.length) (hkm : k < m) : ∃ r, joined (l.take m) = joined (l.take k) ++ (num l[k] ++ r) := by
  refine ⟨joined ((l.take m).drop (k + 1)), ?_⟩
  have e : l.take m = (l.take m).take k ++ ((l.take m)[k]'(by simp; omega) :: (l.take m).drop (k + 1)) := by
    rw [← List.drop_eq_getElem_cons, List.take_append_drop]
  have e2 : (l.take m).take k = l.take k := by rw [List.take_take]; congr 1; omega
  unfold joined at *
  conv => lhs; rw [e]
  rw [List.flatMap_append, List.flatMap_cons, e2]
  simp
theorem joined_length : ∀ (l : List Int), (∀ z ∈ l, inRange z) → (joined l).length ≤ 10 * l.length
  | [], _ => by simp [joined]
  | z :: r, h => by
    have h1 := joined_length r (fun x hx => h x (List.mem_cons_of_mem _ hx))
    have h2 := num_len z (h z (List.mem_cons_self ..))
    have e : joined (z :: r) = num z ++ joined r := by simp [joined]
    rw [e]
    simp only [List.length_append, List.length_cons]
    omega
end Wire
namespace Go.Proofs.YtibnjcoaehnpmaaDoor
open Go Go.RowKit Go.Shelf Go.Sort

theorem reads_joined {l : List Int} (hr : ∀ z ∈ l, Wire.inRange z) {k m : Nat} (h : k < l.length) (hkm : k < m) :
    readsNum ⟨(Wire.joined (l.take m)).toArray⟩ ((Wire.joined (l.take k)).length : Nat) l[k] := by
  obtain ⟨r, e⟩ := Wire.joined_split h hkm
  have hs : (⟨(Wire.joined (l.take m)).toArray⟩ : ByteArray).size = (Wire.joined (l.take m)).length := List.size_toArray
  refine ⟨by omega, ?_, hr _ (List.getElem_mem h), ?_⟩
  · rw [hs, e]; simp; omega
  · show _ <+: (Wire.joined (l.take m)).drop _
    rw [e, Int.toNat_natCast, List.drop_left]
    exact ⟨r, rfl⟩
theorem reads_end (l : List UInt8) (v : Int) : ¬ readsNum ⟨l.toArray⟩ (l.length : Nat) v := by
  rintro ⟨_, _, _, h⟩
  have h' : Wire.num v <+: l.drop ((l.length : Nat) : Int).toNat := h
  rw [Int.toNat_natCast, List.drop_length] at h'
  have := h'.length_le
  obtain ⟨i, x, e, _⟩ := Wire.num_form v
  rw [e] at this
  simp at this

set_option maxRecDepth 100000 in
set_option maxHeartbeats 4000000 in
theorem wireJoins_some (L : List Int) (b off cap : Nat) (hL : L.length ≤ maxLen) (hr : ∀ z ∈ L, Wire.inRange z) (ea : Addr) (w : World)
    (hc : ∀ j (h : j < L.length), w.cell? ⟨b, off + j, none⟩ = some (.int .i64 L[j])) (hE : errLies ea w) :
    Calls Tryd.prog 3 #[.slice (some ⟨b, off, none⟩) L.length cap] w fun e w' => e = .returned (.bool true) ∧ Below w.heap.size w w' := by
  unfold maxLen at hL
  obtain ⟨m, hm⟩ : ∃ m, m = min L.length 30 := ⟨_, rfl⟩
  have hm1 : m ≤ L.length := by omega
  have hm2 : m ≤ 30 := by omega
  have HM := Lib.hid hm; clear hm
  have HC := Lib.hid hc; clear hc
  go_enter Tryd.func3, Tryd.ntmps3
  go_wp2_with fail
  refine (shown_any ea w hE).mono ?_
  rintro e w1 ⟨rfl, hB⟩
  go_wp2
  go_loopw [4, 5] (fun s i wr => ∃ k : Nat, k ≤ m ∧ s = .string ⟨(Wire.joined (L.take k)).toArray⟩ ∧ i = .int .i64 (k : Int) ∧ Below w.heap.size w wr) (fun _ i _ => m - (intOf i).toNat)
  case atStart => exact ⟨0, by omega, rfl, rfl, hB⟩
  case round =>
    obtain ⟨k, hk, rfl, rfl, hB1⟩ := hrel
    by_cases hlt : k < m
    · have hkl : k < L.length := by omega
      have d1 : decide (k < L.length) = true := decide_eq_true hkl
      have d2 : decide ((k : Int) < 30) = true := decide_eq_true (by omega)
      have hcell : wr.cell? ⟨b, off + k, none⟩ = some (.int .i64 L[k]) := by
        rw [hB1.cell (p := ⟨b, off + k, none⟩) (World.block_lt_of_cell? _ _ (HC.out k hkl))]; exact HC.out k hkl
      have hz := hr L[k] (List.getElem_mem hkl)
      have hj := Wire.joined_length (L.take k) (fun z h => hr z (List.mem_of_mem_take h))
      have hj2 : (Wire.joined (L.take k)).length ≤ 300 := by simp at hj; omega
      clear hj
      go_wp2_with fail
      have hz1 := hz.1
      have hz2 := hz.2
      have hnl := Wire.num_len _ hz
      refine (num_any _ hz1 hz2 _).mono ?_
      rintro e w2 ⟨rfl, hB'⟩
      replace hB1 := hB1.trans (hB'.mono hB1.size); clear hB'
      have hjs := Wire.joined_succ hkl
      have HJ := Lib.hid hjs; clear hjs hz
      go_wp2
      exact ⟨⟨k + 1, by omega, by rw [HJ.out, bytes_append], by go_num, hB1⟩, by simp [intOf]; omega⟩
    · obtain rfl : k = m := by omega
      have hor : (decide (k < L.length) = false ∧ True) ∨ (decide (k < L.length) = true ∧ decide ((k : Int) < 30) = false) := by
        have := HM.out
        by_cases h : k < L.length
        · exact .inr ⟨decide_eq_true h, decide_eq_false (by omega)⟩
        · exact .inl ⟨decide_eq_false h, trivial⟩
      have hj := Wire.joined_length (L.take k) (fun z h => hr z (List.mem_of_mem_take h))
      have hj2 : (Wire.joined (L.take k)).length ≤ 300 := by simp at hj; omega
      clear hj
      rcases hor with ⟨d1, _⟩ | ⟨d1, d2⟩
      · go_wp2
        go_loopw [6, 7] (fun p i wr => ∃ j : Nat, j ≤ k ∧ p = .int .i64 ((Wire.joined (L.take j)).length : Nat) ∧ i = .int .i64 (j : Int) ∧ Below w.heap.size w wr) (fun _ i _ => k - (intOf i).toNat)
        case atStart => exact ⟨0, by omega, rfl, rfl, hB1⟩
        case round =>
          obtain ⟨j, hj, rfl, rfl, hB2⟩ := hrel
          rename_i wq _
          have hE2 := hE.below hB2
          by_cases hlt2 : j < k
          · clear d1
            have hjl : j < L.length := by omega
            have d3 : decide (j < L.length) = true := decide_eq_true hjl
            have d4 : decide ((j : Int) < 30) = true := decide_eq_true (by omega)
            have hrd := reads_joined hr hjl hlt2
            have hsz : (⟨(Wire.joined (L.take k)).toArray⟩ : ByteArray).size ≤ 9223372036854775807 := by show (Wire.joined (L.take k)).toArray.size ≤ _; simp; omega
            go_wp2_with fail
            refine (readNum_some hsz hrd hE2).mono ?_
            rintro e w3 ⟨rfl, hB'⟩
            replace hB2 := hB2.trans (hB'.mono hB2.size); clear hB'
            have hcell : w3.cell? ⟨b, off + j, none⟩ = some (.int .i64 L[j]) := by
              rw [hB2.cell (p := ⟨b, off + j, none⟩) (World.block_lt_of_cell? _ _ (HC.out j hjl))]; exact HC.out j hjl
            have hjs := congrArg List.length (Wire.joined_succ hjl)
            rw [List.length_append] at hjs
            have HJ := Lib.hid hjs; clear hjs hrd hsz hE2
            go_wp2
            exact ⟨⟨j + 1, by omega, by rw [HJ.out]; simp, by go_num, hB2⟩, by simp [intOf]; omega⟩
          · obtain rfl : j = k := by omega
            have hsz : (⟨(Wire.joined (L.take j)).toArray⟩ : ByteArray).size ≤ 9223372036854775807 := by show (Wire.joined (L.take j)).toArray.size ≤ _; simp; omega
            go_wp2_with fail
            refine (readNum_none hsz (reads_end _) hE2).mono ?_
            rintro e w3 ⟨rfl, hB'⟩
            replace hB2 := hB2.trans (hB'.mono hB2.size); clear hB'
            go_wp2
            go_ret
            exact ⟨rfl, hB2⟩
      · go_wp2
        go_loopw [6, 7] (fun p i wr => ∃ j : Nat, j ≤ k ∧ p = .int .i64 ((Wire.joined (L.take j)).length : Nat) ∧ i = .int .i64 (j : Int) ∧ Below w.heap.size w wr) (fun _ i _ => k - (intOf i).toNat)
        case atStart => exact ⟨0, by omega, rfl, rfl, hB1⟩
        case round =>
          obtain ⟨j, hj, rfl, rfl, hB2⟩ := hrel
          rename_i wq _
          have hE2 := hE.below hB2
          by_cases hlt2 : j < k
          · clear d1 d2
            have hjl : j < L.length := by omega
            have d3 : decide (j < L.length) = true := decide_eq_true hjl
            have d4 : decide ((j : Int) < 30) = true := decide_eq_true (by omega)
            have hrd := reads_joined hr hjl hlt2
            have hsz : (⟨(Wire.joined (L.take k)).toArray⟩ : ByteArray).size ≤ 9223372036854775807 := by show (Wire.joined (L.take k)).toArray.size ≤ _; simp; omega
            go_wp2_with fail
            refine (readNum_some hsz hrd hE2).mono ?_
            rintro e w3 ⟨rfl, hB'⟩
            replace hB2 := hB2.trans (hB'.mono hB2.size); clear hB'
            have hcell : w3.cell? ⟨b, off + j, none⟩ = some (.int .i64 L[j]) := by
              rw [hB2.cell (p := ⟨b, off + j, none⟩) (World.block_lt_of_cell? _ _ (HC.out j hjl))]; exact HC.out j hjl
            have hjs := congrArg List.length (Wire.joined_succ hjl)
            rw [List.length_append] at hjs
            have HJ := Lib.hid hjs; clear hjs hrd hsz hE2
            go_wp2
            exact ⟨⟨j + 1, by omega, by rw [HJ.out]; simp, by go_num, hB2⟩, by simp [intOf]; omega⟩
          · obtain rfl : j = k := by omega
            have hsz : (⟨(Wire.joined (L.take j)).toArray⟩ : ByteArray).size ≤ 9223372036854775807 := by show (Wire.joined (L.take j)).toArray.size ≤ _; simp; omega
            go_wp2_with fail
            refine (readNum_none hsz (reads_end _) hE2).mono ?_
            rintro e w3 ⟨rfl, hB'⟩
            replace hB2 := hB2.trans (hB'.mono hB2.size); clear hB'
            go_wp2
            go_ret
            exact ⟨rfl, hB2⟩

set_option maxRecDepth 100000 in
set_option maxHeartbeats 4000000 in
theorem wireJoins_none (p : Option Addr) (cap : Nat) (ea : Addr) (w : World) (hE : errLies ea w) :
    Calls Tryd.prog 3 #[.slice p 0 cap] w fun e w' => e = .returned (.bool true) ∧ Below w.heap.size w w' := by
  go_enter Tryd.func3, Tryd.ntmps3
  go_wp2_with fail
  refine (shown_any ea w hE).mono ?_
  rintro e w1 ⟨rfl, hB⟩
  go_wp2
  go_loopw [4, 5] (fun s i wr => s = .string ⟨#[]⟩ ∧ i = .int .i64 0 ∧ Below w.heap.size w wr) (fun _ _ _ => 0)
  case atStart => exact ⟨rfl, rfl, hB⟩
  case round =>
    obtain ⟨rfl, rfl, hB1⟩ := hrel
    go_wp2
    go_loopw [6, 7] (fun p i wr => p = .int .i64 0 ∧ i = .int .i64 0 ∧ Below w.heap.size w wr) (fun _ _ _ => 0)
    case atStart => exact ⟨rfl, rfl, hB1⟩
    case round =>
      obtain ⟨rfl, rfl, hB2⟩ := hrel
      have hE2 := hE.below hB2
      go_wp2_with fail
      refine (readNum_none (by decide) (reads_end []) hE2).mono ?_
      rintro e w3 ⟨rfl, hB'⟩
      replace hB2 := hB2.trans (hB'.mono hB2.size); clear hB'
      go_wp2
      go_ret
      exact ⟨rfl, hB2⟩
end Go.Proofs.YtibnjcoaehnpmaaDoor

/- The walk of FrameBack. -/
import Derived.Test.YtlnfjddacafpgaaFrameToldLaw
namespace Frame
theorem ofNat_inj {a b : Nat} (ha : a < 256) (hb : b < 256) (h : UInt8.ofNat a = UInt8.ofNat b) : a = b := by
  have := congrArg UInt8.toNat h
  rwa [ofNat_toNat ha, ofNat_toNat hb] at this
theorem lay_inj {e a k e' a' k' : Nat} {s s' : List UInt8} (h : right e a k s = true) (h' : right e' a' k' s' = true) (hl : lay e a k s = lay e' a' k' s') : e = e' ∧ a = a' ∧ k = k' ∧ s = s' := by
  unfold right at h h'
  simp only [decide_eq_true_eq] at h h'
  have hb := body_length e a k s h.2.2.2.2.2.2
  have hb' := body_length e' a' k' s' h'.2.2.2.2.2.2
  unfold lay at hl
  have h1 := (List.append_inj hl (by rw [hb, hb'])).1
  unfold body big3 at h1
  simp only [List.cons_append, List.nil_append, List.cons.injEq, true_and] at h1
  obtain ⟨x1, x2, x3, x4, x5, x6, x7⟩ := h1
  have y1 := ofNat_inj (Nat.mod_lt _ (by decide)) (Nat.mod_lt _ (by decide)) x1
  have y2 := ofNat_inj (Nat.mod_lt _ (by decide)) (Nat.mod_lt _ (by decide)) x2
  have y3 := ofNat_inj (Nat.mod_lt _ (by decide)) (Nat.mod_lt _ (by decide)) x3
  have y4 := ofNat_inj (by omega) (by omega) x4
  have y5 := ofNat_inj (by omega) (by omega) x5
  have y6 := ofNat_inj (by omega) (by omega) x6
  exact ⟨by omega, y4, y5, (List.append_inj x7 y6).1⟩
/-- a sector's last four bytes are the sum of what stands ahead of them -/
theorem lay_sum {e a k : Nat} {s : List UInt8} (hs : s.length ≤ 53) : ∃ c : Nat, c = Wire.crc ((lay e a k s).take 60) ∧ c < 4294967296 ∧ ∀ j : Nat, 60 ≤ j → j < 64 → ∃ b, (lay e a k s)[j]? = some b ∧ b.toNat = c / 256 ^ (63 - j) % 256 := by
  have hb := body_length e a k s hs
  unfold lay
  generalize body e a k s = p at hb
  have ht : (p ++ big4 (Wire.crc p)).take 60 = p := by rw [← hb]; simp
  rw [ht]
  refine ⟨_, rfl, Wire.crc_lt p, fun j h1 h2 => ?_⟩
  rw [List.getElem?_append_right (by omega), hb]
  generalize Wire.crc p = c
  obtain rfl | rfl | rfl | rfl : j = 60 ∨ j = 61 ∨ j = 62 ∨ j = 63 := by omega
  all_goals exact ⟨_, rfl, by rw [ofNat_toNat (Nat.mod_lt _ (by decide))]; try simp⟩
end Frame
namespace Go.Proofs.Ytlnfjddacafpgaa
open Go Go.RowKit Wire

/-- a frame in a block of its own -/
def FBox (W : World) (r : Nat) (e a k : Int) (s : ByteArray) : Prop := W.heap[r]? = some (.cells #[.int .i64 e, .int .i64 a, .int .i64 k, .string s] 23 (0, 0))
section
variable {W W' : World} {r : Nat} {e a k : Int} {s : ByteArray}
theorem FBox.below (h : FBox W r e a k s) (hb : Below W.heap.size W W') : FBox W' r e a k s := (hb.block _ (Array.getElem?_eq_some_iff.1 h).1).trans h
theorem FBox.alloc (h : FBox W r e a k s) (o : Obj) : FBox (W.alloc o) r e a k s := h.below ((Below.refl _ _).alloc (Nat.le_refl _) o)
theorem FBox.new (W : World) (e a k : Int) (s : ByteArray) : FBox (W.alloc (.cells #[.int .i64 e, .int .i64 a, .int .i64 k, .string s] 23)) W.heap.size e a k s := World.alloc_heap_new W _
theorem FBox.c0 (h : FBox W r e a k s) : W.cell? ⟨r, 0, none⟩ = some (.int .i64 e) := cell_of_row _ _ 0 _ _ (0, 0) h
theorem FBox.c1 (h : FBox W r e a k s) : W.cell? ⟨r, 1, none⟩ = some (.int .i64 a) := cell_of_row _ _ 1 _ _ (0, 0) h
theorem FBox.c2 (h : FBox W r e a k s) : W.cell? ⟨r, 2, none⟩ = some (.int .i64 k) := cell_of_row _ _ 2 _ _ (0, 0) h
theorem FBox.c3 (h : FBox W r e a k s) : W.cell? ⟨r, 3, none⟩ = some (.string s) := cell_of_row _ _ 3 _ _ (0, 0) h
end

set_option maxRecDepth 100000 in
set_option maxHeartbeats 4000000 in
theorem back_walk (e a k e' a' k' : Int) (s s' : ByteArray) (E A K E' A' K' : Nat) (T T' S S' : ByteArray) (c : Nat)
    (hof : ∀ w, Calls Try.prog 13 #[frameV e a k s] w fun x w' => x = .returned (frameV E A K T) ∧ Below w.heap.size w w')
    (hof' : ∀ w, Calls Try.prog 13 #[frameV e' a' k' s'] w fun x w' => x = .returned (frameV E' A' K' T') ∧ Below w.heap.size w w')
    (hlay : ∀ w, Calls Try.prog 25 #[frameV E A K T] w fun x w' => x = .returned (.tuple #[.string S, .int .i64 0]) ∧ Below w.heap.size w w')
    (hlay' : ∀ w, Calls Try.prog 25 #[frameV E' A' K' T'] w fun x w' => x = .returned (.tuple #[.string S', .int .i64 0]) ∧ Below w.heap.size w w')
    (hread : ∀ w, Calls Try.prog 26 #[.string S] w fun x w' => x = .returned (.tuple #[frameV E A K T, .int .i64 0]) ∧ Below w.heap.size w w')
    (hz : S.size = 64) (hc : c = Wire.crc (S.extract 0 60).data.toList) (hcl : c < 4294967296) (hd : ∀ j : Nat, 60 ≤ j → ∀ (h : j < S.size), S[j].toNat = c / 256 ^ (63 - j) % 256)
    (hss : (E = E' ∧ A = A' ∧ K = K' ∧ T = T' ∧ S = S') ∨ ((S.toList == S'.toList) = false ∧ (¬ (E : Int) = (E' : Int) ∨ (E = E' ∧ ¬ (A : Int) = (A' : Int)) ∨ (E = E' ∧ A = A' ∧ ¬ (K : Int) = (K' : Int)) ∨ (E = E' ∧ A = A' ∧ K = K' ∧ ¬ T.toList = T'.toList)))) (w : World) :
    Calls Try.prog 5 #[frameV e a k s, frameV e' a' k' s'] w fun x w' => x = .returned (.bool true) ∧ Below w.heap.size w w' := by
  have HOF := Lib.hid hof; clear hof
  have HOF' := Lib.hid hof'; clear hof'
  have HLAY := Lib.hid hlay; clear hlay
  have HLAY' := Lib.hid hlay'; clear hlay'
  have HREAD := Lib.hid hread; clear hread
  have HZ := Lib.hid hz; clear hz
  have HC := Lib.hid hc; clear hc
  have HD := Lib.hid hd; clear hd
  have HSS := Lib.hid hss; clear hss
  go_enter Try.func5, Try.ntmps5
  go_wp2_with fail
  refine (examples_any _).mono ?_
  rintro x w1 ⟨rfl, hB⟩
  have hX : FBox w1 w.heap.size e a k s := ((FBox.new w e a k s).alloc _).below hB
  have hY : FBox w1 (w.heap.size + 1) e' a' k' s' := by
    have := (FBox.new (w.alloc (.cells #[.int .i64 e, .int .i64 a, .int .i64 k, .string s] 23)) e' a' k' s').below hB
    rwa [World.size_alloc] at this
  replace hB : Below w.heap.size w w1 := (((Below.refl _ _).alloc (Nat.le_refl _) _).alloc (by simp) _).trans (hB.mono (by simp; omega))
  generalize w.heap.size + 1 = ry at hY ⊢
  have c0 := hX.c0
  have c1 := hX.c1
  have c2 := hX.c2
  have c3 := hX.c3
  go_wp2_with fail
  clear c0 c1 c2 c3 hX
  refine (HOF.out _).mono ?_
  rintro x w2 ⟨rfl, hB'⟩
  replace hY := hY.below hB'
  replace hB := hB.trans (hB'.mono hB.size); clear hB'
  replace hY := hY.alloc (.cells #[.int .i64 (E : Int), .int .i64 (A : Int), .int .i64 (K : Int), .string T] 23)
  have c0 := hY.c0
  have c1 := hY.c1
  have c2 := hY.c2
  have c3 := hY.c3
  go_wp2_with fail
  clear c0 c1 c2 c3 hY
  have hX := FBox.new w2 E A K T
  replace hB := hB.alloc hB.size (.cells #[.int .i64 (E : Int), .int .i64 (A : Int), .int .i64 (K : Int), .string T] 23)
  generalize w2.alloc (.cells #[.int .i64 (E : Int), .int .i64 (A : Int), .int .i64 (K : Int), .string T] 23) = w3 at hX hB ⊢
  generalize w2.heap.size = rx at hX ⊢
  refine (HOF'.out _).mono ?_
  rintro x w4 ⟨rfl, hB'⟩
  replace hX := hX.below hB'
  replace hB := hB.trans (hB'.mono hB.size); clear hB'
  have hY := FBox.new w4 E' A' K' T'
  replace hX := hX.alloc (.cells #[.int .i64 (E' : Int), .int .i64 (A' : Int), .int .i64 (K' : Int), .string T'] 23)
  replace hB := hB.alloc hB.size (.cells #[.int .i64 (E' : Int), .int .i64 (A' : Int), .int .i64 (K' : Int), .string T'] 23)
  have c0 := hX.c0
  have c1 := hX.c1
  have c2 := hX.c2
  have c3 := hX.c3
  go_wp2_with fail
  clear c0 c1 c2 c3
  generalize w4.alloc (.cells #[.int .i64 (E' : Int), .int .i64 (A' : Int), .int .i64 (K' : Int), .string T'] 23) = w5 at hX hY hB ⊢
  generalize w4.heap.size = ry at hY ⊢
  refine (HLAY.out _).mono ?_
  rintro x w6 ⟨rfl, hB'⟩
  replace hX := hX.below hB'
  replace hY := hY.below hB'
  replace hB := hB.trans (hB'.mono hB.size); clear hB'
  have c0 := hY.c0
  have c1 := hY.c1
  have c2 := hY.c2
  have c3 := hY.c3
  go_wp2_with fail
  clear c0 c1 c2 c3
  refine (HLAY'.out _).mono ?_
  rintro x w7 ⟨rfl, hB'⟩
  replace hX := hX.below hB'
  replace hY := hY.below hB'
  replace hB := hB.trans (hB'.mono hB.size); clear hB'
  go_wp2_with fail
  refine (HREAD.out _).mono ?_
  rintro x w8 ⟨rfl, hB'⟩
  replace hX := (hX.below hB').alloc (.cells #[.int .i64 (E : Int), .int .i64 (A : Int), .int .i64 (K : Int), .string T] 23)
  replace hY := (hY.below hB').alloc (.cells #[.int .i64 (E : Int), .int .i64 (A : Int), .int .i64 (K : Int), .string T] 23)
  have hR := FBox.new w8 E A K T
  replace hB := (hB.trans (hB'.mono hB.size)).alloc (hB.trans (hB'.mono hB.size)).size (.cells #[.int .i64 (E : Int), .int .i64 (A : Int), .int .i64 (K : Int), .string T] 23); clear hB'
  have x0 := hX.c0
  have x1 := hX.c1
  have x2 := hX.c2
  have x3 := hX.c3
  have y0 := hY.c0
  have y1 := hY.c1
  have y2 := hY.c2
  have y3 := hY.c3
  clear hX hY hR
  have hz := HZ.out
  have hz1 : S.size ≤ 64 := by omega
  have hz2 : (60 : Int) ≤ (S.size : Int) := by omega
  have hz3 : ((S.size : Int) != 64) = false := by rw [hz]; rfl
  clear hz
  rcases HSS.out with ⟨rfl, rfl, rfl, rfl, rfl⟩ | ⟨hS, hE | ⟨rfl, hE⟩ | ⟨rfl, rfl, hE⟩ | ⟨rfl, rfl, rfl, hE⟩⟩
  all_goals
    clear HSS
    go_wp2_with fail
    clear x0 x1 x2 x3 y0 y1 y2 y3
    generalize w8.alloc (.cells #[.int .i64 (E : Int), .int .i64 (A : Int), .int .i64 (K : Int), .string T] 23) = w9 at hB ⊢
    go_loop [14, 15] (fun u i => ∃ j : Nat, 60 ≤ j ∧ j ≤ 64 ∧ i = .int .i64 (j : Int) ∧ u = .int .i64 ((c / 256 ^ (64 - j) : Nat) : Int)) (fun _ i => 64 - (intOf i).toNat)
    case atStart => exact ⟨60, by omega, by omega, rfl, by rw [show c / 256 ^ (64 - 60) = 0 from Nat.div_eq_of_lt hcl]; rfl⟩
    case round =>
      obtain ⟨j, hj1, hj2, rfl, rfl⟩ := hrel
      by_cases hlt : j < 64
      · have hsz := HZ.out
        have hj3 : j < S.size := by omega
        have hj4 : (j : Int) < (S.size : Int) := by omega
        have hd := HD.out j hj1 hj3
        have hq : 256 * (c / 256 ^ (64 - j)) + c / 256 ^ (63 - j) % 256 = c / 256 ^ (63 - j) := by
          rw [show 64 - j = (63 - j) + 1 from by omega, Nat.pow_succ, ← Nat.div_div_eq_div_mul]
          omega
        have hq1 : c / 256 ^ (64 - j) < 4294967296 := Nat.lt_of_le_of_lt (Nat.div_le_self _ _) hcl
        have hq2 : c / 256 ^ (63 - j) < 4294967296 := Nat.lt_of_le_of_lt (Nat.div_le_self _ _) hcl
        generalize c / 256 ^ (64 - j) = u at hq hq1 ⊢
        have hb := (S[j]).toNat_lt
        have hv : 256 * (u : Int) + ((S[j]).toNat : Int) = ((c / 256 ^ (64 - (j + 1)) : Nat) : Int) := by
          rw [show 64 - (j + 1) = 63 - j from by omega]; omega
        have HV := Lib.hid hv
        clear hsz hd hq hv hq2
        go_wp2_with fail
        go_round
        case rel => exact ⟨j + 1, by omega, by omega, by go_num, by rw [← HV.out]⟩
        case measure => simp [intOf]; omega
      · obtain rfl : j = 64 := by omega
        have hsum := fun w => sum_any (S.extract 0 60) (by simp; omega) w
        rw [← HC.out] at hsum
        rw [show c / 256 ^ (64 - 64) = c from by simp]
        have HSUM := Lib.hid hsum; clear hsum
        go_wp2_with fail
        refine (HSUM.out _).mono ?_
        rintro x w10 ⟨rfl, hB'⟩
        replace hB := hB.trans (hB'.mono hB.size); clear hB'
        go_wp2_with fail
        go_ret
        exact ⟨by simp, hB⟩

theorem frameBack_walk (e a k : Int) (s : ByteArray) (e' a' k' : Int) (s' : ByteArray) (he : -9223372036854775808 ≤ e ∧ e ≤ 9223372036854775807) (ha : -9223372036854775808 ≤ a ∧ a ≤ 9223372036854775807) (hk : -9223372036854775808 ≤ k ∧ k ≤ 9223372036854775807) (hs : s.size ≤ maxLen)
    (he' : -9223372036854775808 ≤ e' ∧ e' ≤ 9223372036854775807) (ha' : -9223372036854775808 ≤ a' ∧ a' ≤ 9223372036854775807) (hk' : -9223372036854775808 ≤ k' ∧ k' ≤ 9223372036854775807) (hs' : s'.size ≤ maxLen) (w : World) :
    Calls Try.prog 5 #[frameV e a k s, frameV e' a' k' s'] w fun x w' => x = .returned (.bool true) ∧ Below w.heap.size w w' := by
  have hof := frameOf_any e a k s he ha hk hs
  have hof' := frameOf_any e' a' k' s' he' ha' hk' hs'
  have hr := few_right e a k s
  have hr' := few_right e' a' k' s'
  generalize (if 53 < s.size then s.extract 0 53 else s) = T at hof hr
  generalize (if 53 < s'.size then s'.extract 0 53 else s') = T' at hof' hr'
  generalize 1 + Frame.pickOf e 16777215 = E at hof hr
  generalize Frame.pickOf a 64 = A at hof hr
  generalize 1 + Frame.pickOf k 4 = K at hof hr
  generalize 1 + Frame.pickOf e' 16777215 = E' at hof' hr'
  generalize Frame.pickOf a' 64 = A' at hof' hr'
  generalize 1 + Frame.pickOf k' 4 = K' at hof' hr'
  have hl := right_len hr
  have hlen := Frame.lay_length E A K T.data.toList hl
  obtain ⟨c, hc, hcl, hd⟩ := Frame.lay_sum (e := E) (a := A) (k := K) hl
  have hz : (⟨(Frame.lay E A K T.data.toList).toArray⟩ : ByteArray).size = 64 := by rw [← hlen]; exact List.size_toArray
  refine back_walk e a k e' a' k' s s' E A K E' A' K' T T' _ _ c hof hof' (lay_good E A K T hr) (lay_good E' A' K' T' hr') (read_some E A K T hr) hz ?_ hcl (fun j h1 h2 => ?_) ?_ w
  · rw [hc]; congr 1
    simp
  · obtain ⟨b, hb1, hb2⟩ := hd j h1 (by omega)
    rw [← hb2]
    congr 1
    rw [List.getElem?_eq_some_iff] at hb1
    obtain ⟨_, hb1⟩ := hb1
    rw [← hb1]; rfl
  · by_cases h : E = E' ∧ A = A' ∧ K = K' ∧ T = T'
    · left
      obtain ⟨rfl, rfl, rfl, rfl⟩ := h
      exact ⟨rfl, rfl, rfl, rfl, rfl⟩
    · right
      refine ⟨?_, ?_⟩
      · rw [beq_eq_false_iff_ne]
        intro hq
        apply h
        rw [Lib.toList_data, Lib.toList_data] at hq
        obtain ⟨h1, h2, h3, h4⟩ := Frame.lay_inj hr hr' hq
        exact ⟨h1, h2, h3, ByteArray.ext (Array.toList_inj.1 h4)⟩
      · by_cases h1 : E = E'
        · by_cases h2 : A = A'
          · by_cases h3 : K = K'
            · refine .inr (.inr (.inr ⟨h1, h2, h3, fun hq => h ⟨h1, h2, h3, ?_⟩⟩))
              rw [Lib.toList_data, Lib.toList_data] at hq
              exact ByteArray.ext (Array.toList_inj.1 hq)
            · exact .inr (.inr (.inl ⟨h1, h2, by omega⟩))
          · exact .inr (.inl ⟨h1, by omega⟩)
        · exact .inl (by omega)
end Go.Proofs.Ytlnfjddacafpgaa

/- The walk of FrameNeeds. -/
import Derived.Test.YtlnfjddacafpgaaFrameExamples
namespace Frame
theorem need_more (n : Nat) : need (n + 1) = if 0 < n ∧ n % 53 = 0 then need n + 1 else need n := by
  unfold need
  split
  · split <;> split <;> omega
  · split <;> split <;> omega
end Frame
namespace Go.Proofs.Ytlnfjddacafpgaa
open Go Go.RowKit Wire

theorem parts_at (e a n : Nat) (s : ByteArray) : ∀ (m k : Nat), k < m → ∀ i, i < 4 → (Frame.parts e a n s m)[k * 4 + i]? = (Frame.part e a n s k)[i]?
  | m + 1, k, hk, i, hi => by
    have hl : ∀ m, (Frame.parts e a n s m).length = 4 * m := fun m => by
      induction m with
      | zero => rfl
      | succ m ih => rw [Frame.parts_succ, List.length_append, ih]; simp [Frame.part]; omega
    rw [Frame.parts_succ]
    by_cases h : k < m
    · rw [List.getElem?_append_left (by rw [hl]; omega)]
      exact parts_at e a n s m k h i hi
    · obtain rfl : k = m := by omega
      rw [List.getElem?_append_right (by rw [hl]; omega), hl]
      congr 1; omega

theorem bytes_app (a : List UInt8) (s : ByteArray) : (({ data := a.toArray } : ByteArray) ++ s) = ⟨(a ++ s.data.toList).toArray⟩ := by
  apply ByteArray.ext
  simp

/-- the bytes of the k-th frame -/
def piece (b : ByteArray) (n k : Nat) : ByteArray := if k + 1 = n then b.extract (k * 53) b.size else (b.extract (k * 53) b.size).extract 0 53
theorem piece_list (b : ByteArray) (n k : Nat) (h : b.size ≤ 53 * n) (hk : k < n) : (piece b n k).data.toList = (b.data.toList.drop (53 * k)).take 53 := by
  unfold piece
  split
  · rw [ByteArray.data_extract, Array.toList_extract, List.extract_eq_take_drop]
    have hl : b.data.toList.length = b.size := by simp
    rw [Nat.mul_comm k 53, List.take_of_length_le (by rw [List.length_drop, hl]; omega), List.take_of_length_le (by rw [List.length_drop, hl]; omega)]
  · rw [ByteArray.data_extract, Array.toList_extract, List.extract_eq_take_drop, ByteArray.data_extract, Array.toList_extract, List.extract_eq_take_drop]
    have hl : b.data.toList.length = b.size := by simp
    rw [Nat.mul_comm k 53, List.drop_zero, Nat.sub_zero, List.take_of_length_le (l := List.drop (53 * k) b.data.toList) (i := b.size - 53 * k) (by rw [List.length_drop, hl]; omega)]
theorem piece_join (b : ByteArray) (n k : Nat) (h : b.size ≤ 53 * n) (hk : k < n) : b.data.toList.take (53 * k) ++ (piece b n k).data.toList = b.data.toList.take (53 * (k + 1)) := by
  rw [piece_list b n k h hk, ← List.take_add]
  congr 1
theorem piece_size (b : ByteArray) (n k : Nat) (h : b.size ≤ 53 * n) (h2 : 53 * (n - 1) ≤ b.size) (hk : k < n) (hl : ¬ k + 1 = n) : (piece b n k).size = 53 := by
  have := congrArg List.length (piece_list b n k h hk)
  have hz : (piece b n k).data.toList.length = (piece b n k).size := by simp
  have hz2 : b.data.toList.length = b.size := by simp
  rw [hz, List.length_take, List.length_drop, hz2] at this
  omega

set_option maxRecDepth 100000 in
set_option maxHeartbeats 4000000 in
theorem frameNeeds_walk (s : ByteArray) (e a : Int) (hs : s.size ≤ maxLen) (he : 0 ≤ e ∧ e ≤ 65535) (ha : 0 ≤ a ∧ a ≤ 255) (w : World) :
    Calls Try.prog 8 #[.string s, .int .u16 e, .int .u8 a] w fun x w' => x = .returned (.bool true) ∧ Below w.heap.size w w' := by
  unfold maxLen at hs
  obtain ⟨e, rfl⟩ : ∃ k : Nat, e = (k : Int) := ⟨e.toNat, by omega⟩
  obtain ⟨a, rfl⟩ : ∃ k : Nat, a = (k : Int) := ⟨a.toNat, by omega⟩
  by_cases hm : 2000 < s.size
  · go_enter Try.func8, Try.ntmps8
    go_wp2_with fail
    refine (examples_any w).mono ?_
    rintro x w1 ⟨rfl, hB⟩
    go_wp2_with fail
    generalize hbe : s.extract 0 2000 = b
    have hb1 : min 2000 s.size = b.size := by rw [← hbe]; simp
    have hb2 : b.size ≤ 2000 := by omega
    rw [hb1]
    clear hbe hb1 hm hs
    obtain ⟨n, hn⟩ : ∃ n, n = Frame.need b.size := ⟨_, rfl⟩
    have hn1 : 1 ≤ n := by subst hn; unfold Frame.need; omega
    have hn38 : n ≤ 38 := by have := need_le b.size; omega
    have hs1 : b.size ≤ 53 * n := by subst hn; unfold Frame.need; split <;> omega
    have hs2 : 53 * (n - 1) ≤ b.size := by subst hn; unfold Frame.need; split <;> omega
    refine (need_any b.size (by omega) _).mono ?_
    rintro x w2 ⟨rfl, rfl⟩
    rw [← hn]
    have hcut := cut_good (1 + e) (a % 20) b n hn (by omega) (by omega) w1
    rw [show ((1 + e : Nat) : Int) = 1 + (e : Int) from by omega, show ((a % 20 : Nat) : Int) = (a : Int) % 20 from by omega] at hcut
    have HCUT := Lib.hid hcut
    have HN := Lib.hid hn
    clear hcut hn
    go_wp2_with fail
    refine HCUT.out.mono ?_
    rintro x w3 ⟨v, rfl, hr, hB3⟩
    replace hB := hB.trans (hB3.mono hB.size)
    obtain ⟨g, cap, rfl, hg1, hg2⟩ := hr.form (by omega)
    have hc : ∀ k, k < n → ∀ i u, (Frame.part (1 + e) (a % 20) n b k)[i]? = some u → w3.cell? ⟨g, k * 4 + i, none⟩ = some u := fun k hk i u hu => by
      have hi : i < 4 := (List.getElem?_eq_some_iff.1 hu).1
      have h := hr.cells (g := g) rfl (k * 4 + i) u (by rw [parts_at _ _ _ _ n k hk i hi]; exact hu)
      rwa [show (⟨g, 0, none⟩ : Addr).add (k * 4 + i) = ⟨g, k * 4 + i, none⟩ from by unfold Addr.add; split <;> simp_all] at h
    have HC := Lib.hid hc
    clear hc hr hB3 HCUT
    go_wp2
    go_loopw [13, 14] (fun p i wr => ∃ k : Nat, k ≤ n ∧ p = .string ⟨(b.data.toList.take (53 * k)).toArray⟩ ∧ i = .int .i64 (k : Int) ∧ Below w3.heap.size w3 wr) (fun _ i _ => n - (intOf i).toNat)
    case atStart => exact ⟨0, by omega, rfl, rfl, Below.refl _ _⟩
    case round =>
      obtain ⟨k, hk, rfl, rfl, hBr⟩ := hrel
      by_cases hlt : k < n
      · have c : ∀ i u, (Frame.part (1 + e) (a % 20) n b k)[i]? = some u → wr.cell? ⟨g, k * 4 + i, none⟩ = some u := fun i u hu => by
          rw [hBr.cell (p := ⟨g, k * 4 + i, none⟩) hg2]; exact HC.out k hlt i u hu
        have c0 : wr.cell? ⟨g, k * 4, none⟩ = some (.int .i64 (1 + (e : Int))) := (c 0 _ rfl).trans (by rw [show ((1 + e : Nat) : Int) = 1 + (e : Int) from by omega])
        have c1 : wr.cell? ⟨g, k * 4 + 1, none⟩ = some (.int .i64 ((a : Int) % 20 + (k : Int))) := (c 1 _ rfl).trans (by rw [show ((a % 20 : Nat) : Int) = (a : Int) % 20 from by omega])
        have c2 : wr.cell? ⟨g, k * 4 + 2, none⟩ = some (.int .i64 (if k + 1 = n then 3 else 2)) := c 2 _ rfl
        have c3 : wr.cell? ⟨g, k * 4 + 3, none⟩ = some (.string (piece b n k)) := c 3 _ rfl
        have hpj := piece_join b n k hs1 hlt
        have hps : (piece b n k).size ≤ 2000 := by
          have := congrArg List.length (piece_list b n k hs1 hlt)
          have hz : (piece b n k).data.toList.length = (piece b n k).size := by simp
          rw [hz, List.length_take] at this
          omega
        have hpl : (b.data.toList.take (53 * k)).length ≤ 2000 := by
          have hz2 : b.data.toList.length = b.size := by simp
          rw [List.length_take, hz2]; omega
        clear c
        have d0 : (0 : Int) ≤ (k : Int) := by omega
        by_cases hlast : k + 1 = n
        · rw [if_pos hlast] at c2
          generalize piece b n k = T at c3 hpj hps
          have d1 : ((k : Int) == (n : Int) - 1) = true := by rw [beq_iff_eq]; omega
          have d2 : decide ((k : Int) < (n : Int) - 1) = false := decide_eq_false (by omega)
          have HP := Lib.hid hpj; clear hpj
          have HLA := Lib.hid hlast; clear hlast
          go_wp2
          exact ⟨⟨k + 1, by omega, by rw [← HP.out, bytes_app], by go_num, hBr.alloc (Nat.le_trans (Nat.le_refl _) hBr.size) _⟩, by simp [intOf]; omega⟩
        · rw [if_neg hlast] at c2
          have hpz := piece_size b n k hs1 hs2 hlt hlast
          generalize piece b n k = T at c3 hpj hps hpz
          have d1 : ((k : Int) == (n : Int) - 1) = false := by rw [beq_eq_false_iff_ne]; omega
          have d2 : decide ((k : Int) < (n : Int) - 1) = true := decide_eq_true (by omega)
          have HP := Lib.hid hpj; clear hpj
          have HLA := Lib.hid hlast; clear hlast
          go_wp2
          exact ⟨⟨k + 1, by omega, by rw [← HP.out, bytes_app], by go_num, hBr.alloc (Nat.le_trans (Nat.le_refl _) hBr.size) _⟩, by simp [intOf]; omega⟩
      · obtain rfl : k = n := by omega
        have hb' : (⟨(b.data.toList.take (53 * k)).toArray⟩ : ByteArray) = b := by
          apply ByteArray.ext
          apply Array.toList_inj.1
          show b.data.toList.take (53 * k) = b.data.toList
          exact List.take_of_length_le (by have hz2 : b.data.toList.length = b.size := by simp
                                           omega)
        rw [hb']
        clear hb'
        have hmore := Frame.need_more b.size
        rw [← HN.out] at hmore
        have hnd := fun w => need_any (b.size + 1) (by omega) w
        rw [hmore] at hnd
        have hBf := hB.trans (hBr.mono hB.size)
        have HB := Lib.hid hBf
        clear hB hBr hBf hmore HC
        by_cases hf1 : 0 < b.size
        · by_cases hf2 : b.size % 53 = 0
          · rw [if_pos ⟨hf1, hf2⟩] at hnd
            have HND := Lib.hid hnd; clear hnd
            have t1 : ((b.size : Int) % 53 == 0) = true := by rw [beq_iff_eq]; omega
            have t2 : ((k : Int) + 1 == (k : Int)) = false := by rw [beq_eq_false_iff_ne]; omega
            have HF := Lib.hid hf2; clear hf2
            go_wp2_with fail
            refine (HND.out _).mono ?_
            rintro x w4 ⟨rfl, rfl⟩
            go_wp2_with fail
            go_ret
            exact ⟨by simp, HB.out⟩
          · rw [if_neg (fun h => hf2 h.2)] at hnd
            have HND := Lib.hid hnd; clear hnd
            have t1 : ((b.size : Int) % 53 == 0) = false := by rw [beq_eq_false_iff_ne]; omega
            have t2 : ((k : Int) == (k : Int) + 1) = false := by rw [beq_eq_false_iff_ne]; omega
            have HF := Lib.hid hf2; clear hf2
            go_wp2_with fail
            refine (HND.out _).mono ?_
            rintro x w4 ⟨rfl, rfl⟩
            go_wp2_with fail
            go_ret
            exact ⟨by simp, HB.out⟩
        · rw [if_neg (fun h => hf1 h.1)] at hnd
          have HND := Lib.hid hnd; clear hnd
          have t2 : ((k : Int) == (k : Int) + 1) = false := by rw [beq_eq_false_iff_ne]; omega
          go_wp2_with fail
          refine (HND.out _).mono ?_
          rintro x w4 ⟨rfl, rfl⟩
          go_wp2_with fail
          go_ret
          exact ⟨by simp, HB.out⟩
  · go_enter Try.func8, Try.ntmps8
    go_wp2_with fail
    refine (examples_any w).mono ?_
    rintro x w1 ⟨rfl, hB⟩
    go_wp2_with fail
    obtain ⟨b, rfl⟩ : ∃ b, b = s := ⟨_, rfl⟩
    have hb2 : b.size ≤ 2000 := by omega
    clear hm hs
    obtain ⟨n, hn⟩ : ∃ n, n = Frame.need b.size := ⟨_, rfl⟩
    have hn1 : 1 ≤ n := by subst hn; unfold Frame.need; omega
    have hn38 : n ≤ 38 := by have := need_le b.size; omega
    have hs1 : b.size ≤ 53 * n := by subst hn; unfold Frame.need; split <;> omega
    have hs2 : 53 * (n - 1) ≤ b.size := by subst hn; unfold Frame.need; split <;> omega
    refine (need_any b.size (by omega) _).mono ?_
    rintro x w2 ⟨rfl, rfl⟩
    rw [← hn]
    have hcut := cut_good (1 + e) (a % 20) b n hn (by omega) (by omega) w1
    rw [show ((1 + e : Nat) : Int) = 1 + (e : Int) from by omega, show ((a % 20 : Nat) : Int) = (a : Int) % 20 from by omega] at hcut
    have HCUT := Lib.hid hcut
    have HN := Lib.hid hn
    clear hcut hn
    go_wp2_with fail
    refine HCUT.out.mono ?_
    rintro x w3 ⟨v, rfl, hr, hB3⟩
    replace hB := hB.trans (hB3.mono hB.size)
    obtain ⟨g, cap, rfl, hg1, hg2⟩ := hr.form (by omega)
    have hc : ∀ k, k < n → ∀ i u, (Frame.part (1 + e) (a % 20) n b k)[i]? = some u → w3.cell? ⟨g, k * 4 + i, none⟩ = some u := fun k hk i u hu => by
      have hi : i < 4 := (List.getElem?_eq_some_iff.1 hu).1
      have h := hr.cells (g := g) rfl (k * 4 + i) u (by rw [parts_at _ _ _ _ n k hk i hi]; exact hu)
      rwa [show (⟨g, 0, none⟩ : Addr).add (k * 4 + i) = ⟨g, k * 4 + i, none⟩ from by unfold Addr.add; split <;> simp_all] at h
    have HC := Lib.hid hc
    clear hc hr hB3 HCUT
    go_wp2
    go_loopw [13, 14] (fun p i wr => ∃ k : Nat, k ≤ n ∧ p = .string ⟨(b.data.toList.take (53 * k)).toArray⟩ ∧ i = .int .i64 (k : Int) ∧ Below w3.heap.size w3 wr) (fun _ i _ => n - (intOf i).toNat)
    case atStart => exact ⟨0, by omega, rfl, rfl, Below.refl _ _⟩
    case round =>
      obtain ⟨k, hk, rfl, rfl, hBr⟩ := hrel
      by_cases hlt : k < n
      · have c : ∀ i u, (Frame.part (1 + e) (a % 20) n b k)[i]? = some u → wr.cell? ⟨g, k * 4 + i, none⟩ = some u := fun i u hu => by
          rw [hBr.cell (p := ⟨g, k * 4 + i, none⟩) hg2]; exact HC.out k hlt i u hu
        have c0 : wr.cell? ⟨g, k * 4, none⟩ = some (.int .i64 (1 + (e : Int))) := (c 0 _ rfl).trans (by rw [show ((1 + e : Nat) : Int) = 1 + (e : Int) from by omega])
        have c1 : wr.cell? ⟨g, k * 4 + 1, none⟩ = some (.int .i64 ((a : Int) % 20 + (k : Int))) := (c 1 _ rfl).trans (by rw [show ((a % 20 : Nat) : Int) = (a : Int) % 20 from by omega])
        have c2 : wr.cell? ⟨g, k * 4 + 2, none⟩ = some (.int .i64 (if k + 1 = n then 3 else 2)) := c 2 _ rfl
        have c3 : wr.cell? ⟨g, k * 4 + 3, none⟩ = some (.string (piece b n k)) := c 3 _ rfl
        have hpj := piece_join b n k hs1 hlt
        have hps : (piece b n k).size ≤ 2000 := by
          have := congrArg List.length (piece_list b n k hs1 hlt)
          have hz : (piece b n k).data.toList.length = (piece b n k).size := by simp
          rw [hz, List.length_take] at this
          omega
        have hpl : (b.data.toList.take (53 * k)).length ≤ 2000 := by
          have hz2 : b.data.toList.length = b.size := by simp
          rw [List.length_take, hz2]; omega
        clear c
        have d0 : (0 : Int) ≤ (k : Int) := by omega
        by_cases hlast : k + 1 = n
        · rw [if_pos hlast] at c2
          generalize piece b n k = T at c3 hpj hps
          have d1 : ((k : Int) == (n : Int) - 1) = true := by rw [beq_iff_eq]; omega
          have d2 : decide ((k : Int) < (n : Int) - 1) = false := decide_eq_false (by omega)
          have HP := Lib.hid hpj; clear hpj
          have HLA := Lib.hid hlast; clear hlast
          go_wp2
          exact ⟨⟨k + 1, by omega, by rw [← HP.out, bytes_app], by go_num, hBr.alloc (Nat.le_trans (Nat.le_refl _) hBr.size) _⟩, by simp [intOf]; omega⟩
        · rw [if_neg hlast] at c2
          have hpz := piece_size b n k hs1 hs2 hlt hlast
          generalize piece b n k = T at c3 hpj hps hpz
          have d1 : ((k : Int) == (n : Int) - 1) = false := by rw [beq_eq_false_iff_ne]; omega
          have d2 : decide ((k : Int) < (n : Int) - 1) = true := decide_eq_true (by omega)
          have HP := Lib.hid hpj; clear hpj
          have HLA := Lib.hid hlast; clear hlast
          go_wp2
          exact ⟨⟨k + 1, by omega, by rw [← HP.out, bytes_app], by go_num, hBr.alloc (Nat.le_trans (Nat.le_refl _) hBr.size) _⟩, by simp [intOf]; omega⟩
      · obtain rfl : k = n := by omega
        have hb' : (⟨(b.data.toList.take (53 * k)).toArray⟩ : ByteArray) = b := by
          apply ByteArray.ext
          apply Array.toList_inj.1
          show b.data.toList.take (53 * k) = b.data.toList
          exact List.take_of_length_le (by have hz2 : b.data.toList.length = b.size := by simp
                                           omega)
        rw [hb']
        clear hb'
        have hmore := Frame.need_more b.size
        rw [← HN.out] at hmore
        have hnd := fun w => need_any (b.size + 1) (by omega) w
        rw [hmore] at hnd
        have hBf := hB.trans (hBr.mono hB.size)
        have HB := Lib.hid hBf
        clear hB hBr hBf hmore HC
        by_cases hf1 : 0 < b.size
        · by_cases hf2 : b.size % 53 = 0
          · rw [if_pos ⟨hf1, hf2⟩] at hnd
            have HND := Lib.hid hnd; clear hnd
            have t1 : ((b.size : Int) % 53 == 0) = true := by rw [beq_iff_eq]; omega
            have t2 : ((k : Int) + 1 == (k : Int)) = false := by rw [beq_eq_false_iff_ne]; omega
            have HF := Lib.hid hf2; clear hf2
            go_wp2_with fail
            refine (HND.out _).mono ?_
            rintro x w4 ⟨rfl, rfl⟩
            go_wp2_with fail
            go_ret
            exact ⟨by simp, HB.out⟩
          · rw [if_neg (fun h => hf2 h.2)] at hnd
            have HND := Lib.hid hnd; clear hnd
            have t1 : ((b.size : Int) % 53 == 0) = false := by rw [beq_eq_false_iff_ne]; omega
            have t2 : ((k : Int) == (k : Int) + 1) = false := by rw [beq_eq_false_iff_ne]; omega
            have HF := Lib.hid hf2; clear hf2
            go_wp2_with fail
            refine (HND.out _).mono ?_
            rintro x w4 ⟨rfl, rfl⟩
            go_wp2_with fail
            go_ret
            exact ⟨by simp, HB.out⟩
        · rw [if_neg (fun h => hf1 h.1)] at hnd
          have HND := Lib.hid hnd; clear hnd
          have t2 : ((k : Int) == (k : Int) + 1) = false := by rw [beq_eq_false_iff_ne]; omega
          go_wp2_with fail
          refine (HND.out _).mono ?_
          rintro x w4 ⟨rfl, rfl⟩
          go_wp2_with fail
          go_ret
          exact ⟨by simp, HB.out⟩
end Go.Proofs.Ytlnfjddacafpgaa

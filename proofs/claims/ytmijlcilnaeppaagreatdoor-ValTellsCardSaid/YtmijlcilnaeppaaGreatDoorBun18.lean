/- Texts put together: RefDig, RefWr. -/
import Derived.Test.YtmijlcilnaeppaaGreatDoorBun12
import Derived.Lib.ItoaLen
import Derived.Lib.ItoaNum
import Derived.Test.YtmijlcilnaeppaaGreatDoorBun17
import Derived.Test.YtmijlcilnaeppaaGreatDoorWrittenZ
/- moraineref03.Digits, moraineref03.Quoted. -/
set_option linter.unusedSimpArgs false
set_option linter.unusedVariables false
namespace Go.Proofs.YtmijlcilnaeppaaGreatDoor
open Go Go.RowKit Go.Shelf

theorem dec_small {u : Nat} (h : u < 10) : Lib.decDigits u = [UInt8.ofNat (48 + u)] := by rw [Lib.decDigits]; simp [h]
theorem dec_big {u : Nat} (h : ¬ u < 10) : Lib.decDigits u = Lib.decDigits (u / 10) ++ [UInt8.ofNat (48 + u % 10)] := by rw [Lib.decDigits]; simp [h]
theorem dec_len : ∀ (k u : Nat), u < 10 ^ (k + 1) → (Lib.decDigits u).length ≤ k + 1
  | 0, u, h => by rw [dec_small (by simpa using h)]; simp
  | k + 1, u, h => by
    by_cases hs : u < 10
    · rw [dec_small hs]; simp
    · rw [dec_big hs, List.length_append]
      have := dec_len k (u / 10) (by rw [Nat.pow_succ] at h; omega)
      simp; omega
theorem digit_at (d : Nat) (h : d < 10) : (ByteArray.extract { data := #[48, 49, 50, 51, 52, 53, 54, 55, 56, 57] } d (d + 1)) = ⟨#[UInt8.ofNat (48 + d)]⟩ := by
  match d, h with
  | 0, _ => decide
  | 1, _ => decide
  | 2, _ => decide
  | 3, _ => decide
  | 4, _ => decide
  | 5, _ => decide
  | 6, _ => decide
  | 7, _ => decide
  | 8, _ => decide
  | 9, _ => decide

set_option maxHeartbeats 2000000 in
set_option maxRecDepth 100000 in
theorem digits_nat : ∀ (u : Nat), u ≤ 1000000000000000 → ∀ (w : World),
    Calls Tryz.prog 66 #[.int .i64 (u : Int)] w fun e w' => e = .returned (.string ⟨(Lib.decDigits u).toArray⟩) ∧ w = w' := by
  intro u
  induction u using Nat.strongRecOn with
  | _ u ih =>
    intro hu w
    have d0 : ¬ (u : Int) < 0 := by omega
    have d0' : decide ((u : Int) < 0) = false := decide_eq_false d0
    obtain ⟨q, hq, e1⟩ : ∃ q : Nat, q = u % 10 ∧ (u : Int) % 10 = (q : Int) := ⟨u % 10, rfl, by omega⟩
    have hx := digit_at q (by omega)
    have d1 : (q : Int) ≤ 9 := by omega
    have d1' : q ≤ 9 := by omega
    have d2 : (0 : Int) ≤ (q : Int) := by omega
    by_cases hs : u < 10
    · have d3 : decide ((u : Int) < 10) = true := decide_eq_true (by omega)
      have d3' : (u : Int) < 10 := by omega
      have hr : Lib.decDigits u = [UInt8.ofNat (48 + q)] := by rw [dec_small hs, hq, show u % 10 = u from by omega]
      generalize UInt8.ofNat (48 + q) = cc at hx hr
      have HR := Lib.hid hr
      clear ih hr hq
      rw [HR.out]
      go_enter Tryz.func66, Tryz.ntmps66
      go_wp2_with fail
      go_ret
      exact ⟨by first | rfl | rw [hx] | (congr 2), rfl⟩
    · have d3 : decide ((u : Int) < 10) = false := decide_eq_false (by omega)
      have d3' : ¬ (u : Int) < 10 := by omega
      have hr : Lib.decDigits u = Lib.decDigits (u / 10) ++ [UInt8.ofNat (48 + q)] := by rw [hq]; exact dec_big hs
      have hc := fun W => ih (u / 10) (by omega) (by omega) W
      have hl := dec_len 15 (u / 10) (by omega)
      have hz : (⟨(Lib.decDigits (u / 10)).toArray⟩ : ByteArray).size ≤ 16 := by
        have : (⟨(Lib.decDigits (u / 10)).toArray⟩ : ByteArray).size = (Lib.decDigits (u / 10)).length := List.size_toArray
        omega
      have hj : (⟨(Lib.decDigits (u / 10)).toArray⟩ : ByteArray) ++ { data := #[UInt8.ofNat (48 + q)] } = ⟨(Lib.decDigits u).toArray⟩ := by rw [hr]; apply ByteArray.ext; simp
      generalize (⟨(Lib.decDigits (u / 10)).toArray⟩ : ByteArray) = S at *
      obtain ⟨a, ha, e2⟩ : ∃ a : Nat, a = u / 10 ∧ (u : Int) / 10 = (a : Int) := ⟨u / 10, rfl, by omega⟩
      rw [← ha] at hc
      generalize UInt8.ofNat (48 + q) = cc at hx hr hj
      have HC := Lib.hid hc
      have HJ := Lib.hid hj
      clear ih hr hc hj hl hq ha
      rw [← HJ.out]
      go_enter Tryz.func66, Tryz.ntmps66
      go_wp2_with fail
      refine (HC.out _).mono ?_
      rintro e W1 ⟨rfl, rfl⟩
      go_wp2_with fail
      go_ret
      exact ⟨by first | rfl | rw [hx], rfl⟩

set_option maxHeartbeats 2000000 in
set_option maxRecDepth 100000 in
theorem digits_neg : ∀ (u : Nat), 0 < u → u ≤ 1000000000000000 → ∀ (w : World),
    Calls Tryz.prog 66 #[.int .i64 (-(u : Int))] w fun e w' => e = .returned (.string ⟨(45 :: Lib.decDigits u).toArray⟩) ∧ w = w' := by
  intro u
  induction u using Nat.strongRecOn with
  | _ u ih =>
    intro hu0 hu w
    have d0 : (-(u : Int)) < 0 := by omega
    have d0' : decide ((-(u : Int)) < 0) = true := decide_eq_true d0
    by_cases hs : u < 10
    · have d3 : decide (-(u : Int) ≤ -10) = false := decide_eq_false (by omega)
      have d3' : ¬ (10 : Int) ≤ (u : Int) := by omega
      have d4 : decide (10 ≤ u) = false := decide_eq_false (by omega)
      have hc := fun W => digits_nat u hu W
      have hj : (⟨#[45]⟩ : ByteArray) ++ ⟨(Lib.decDigits u).toArray⟩ = ⟨(45 :: Lib.decDigits u).toArray⟩ := by apply ByteArray.ext; simp
      have hl := dec_len 15 u (by omega)
      have hz : (⟨(Lib.decDigits u).toArray⟩ : ByteArray).size ≤ 16 := by
        have : (⟨(Lib.decDigits u).toArray⟩ : ByteArray).size = (Lib.decDigits u).length := List.size_toArray
        omega
      generalize (⟨(Lib.decDigits u).toArray⟩ : ByteArray) = S at *
      have HC := Lib.hid hc
      have HJ := Lib.hid hj
      clear ih hc hj hl
      rw [← HJ.out]
      go_enter Tryz.func66, Tryz.ntmps66
      go_wp2_with fail
      refine (HC.out _).mono ?_
      rintro e W1 ⟨rfl, rfl⟩
      go_wp2_with fail
      go_ret
      exact ⟨rfl, rfl⟩
    · have d3 : decide (-(u : Int) ≤ -10) = true := decide_eq_true (by omega)
      have d3' : (10 : Int) ≤ (u : Int) := by omega
      have d4 : decide (10 ≤ u) = true := decide_eq_true (by omega)
      have e1 : Int.tdiv (-(u : Int)) 10 = -((u / 10 : Nat) : Int) := by rw [Int.neg_tdiv]; rfl
      have e2 : Int.tmod (-(u : Int)) 10 = -((u % 10 : Nat) : Int) := by rw [Int.neg_tmod]; rfl
      have e3 : -(-((u % 10 : Nat) : Int)) = ((u % 10 : Nat) : Int) := by omega
      have hc := fun W => ih (u / 10) (by omega) (by omega) (by omega) W
      have hd := fun W => digits_nat (u % 10) (by omega) W
      rw [dec_small (Nat.mod_lt _ (by decide))] at hd
      have hl := dec_len 15 (u / 10) (by omega)
      have hz : (⟨(45 :: Lib.decDigits (u / 10)).toArray⟩ : ByteArray).size ≤ 17 := by
        have : (⟨(45 :: Lib.decDigits (u / 10)).toArray⟩ : ByteArray).size = (45 :: Lib.decDigits (u / 10)).length := List.size_toArray
        simp at this; omega
      have hj : (⟨(45 :: Lib.decDigits (u / 10)).toArray⟩ : ByteArray) ++ ⟨[UInt8.ofNat (48 + u % 10)].toArray⟩ = ⟨(45 :: Lib.decDigits u).toArray⟩ := by rw [dec_big hs]; apply ByteArray.ext; simp
      have hz2 : (⟨[UInt8.ofNat (48 + u % 10)].toArray⟩ : ByteArray).size ≤ 1 := Nat.le_refl _
      generalize (⟨(45 :: Lib.decDigits (u / 10)).toArray⟩ : ByteArray) = S at *
      generalize (⟨[UInt8.ofNat (48 + u % 10)].toArray⟩ : ByteArray) = D at *
      have q1 : (((u / 10 : Nat)) : Int) ≤ 1000000000000000 := by omega
      have q2 : (((u % 10 : Nat)) : Int) ≤ 9 := by omega
      generalize u / 10 = a at e1 hc q1
      generalize u % 10 = b at e2 e3 hd q2
      have HC := Lib.hid hc
      have HD := Lib.hid hd
      have HJ := Lib.hid hj
      clear ih hc hd hj hl
      rw [← HJ.out]
      go_enter Tryz.func66, Tryz.ntmps66
      go_wp2_with (go_at_call 66; (first | (with_reducible refine (HC.out _).mono ?_) | (with_reducible refine (HD.out _).mono ?_)); rintro e W1 ⟨rfl, rfl⟩)
      go_ret
      exact ⟨rfl, rfl⟩

theorem digits_any (n : Int) (h0 : -1000000000000000 ≤ n) (h1 : n ≤ 1000000000000000) (w : World) :
    Calls Tryz.prog 66 #[.int .i64 n] w fun e w' => e = .returned (.string ⟨(Lib.itoa n).toArray⟩) ∧ w = w' := by
  unfold Lib.itoa
  by_cases h : n < 0
  · rw [if_pos h]
    have := digits_neg n.natAbs (by omega) (by omega) w
    rwa [show (-(n.natAbs : Int)) = n from by omega] at this
  · rw [if_neg h]
    have := digits_nat n.toNat (by omega) w
    rwa [show ((n.toNat : Nat) : Int) = n from by omega] at this

set_option maxHeartbeats 4000000 in
set_option maxRecDepth 100000 in
theorem quoted_any (s : ByteArray) (hs : s.size ≤ 1000000) (w : World) :
    Calls Tryz.prog 67 #[.string s] w fun e w' => e = .returned (.string ⟨(34 :: (quoted s.data.toList ++ [34])).toArray⟩) ∧ w = w' := by
  go_enter Tryz.func67, Tryz.ntmps67
  go_wp2_with fail
  go_loopw [3, 4] (fun v i wr => ∃ k : Nat, k ≤ s.size ∧ i = .int .i64 (k : Int) ∧ v = .string ⟨(34 :: quoted (s.data.toList.take k)).toArray⟩ ∧ w = wr) (fun _ i _ => s.size - (intOf i).toNat)
  case atStart => exact ⟨0, by omega, rfl, rfl, rfl⟩
  case round =>
    obtain ⟨k, hk, rfl, rfl, rfl⟩ := hrel
    have hql := quoted_len (s.data.toList.take k)
    have htk : (s.data.toList.take k).length ≤ 1000000 := by rw [List.length_take]; omega
    have hz : (⟨(34 :: quoted (s.data.toList.take k)).toArray⟩ : ByteArray).size ≤ 2000001 := by
      have : (⟨(34 :: quoted (s.data.toList.take k)).toArray⟩ : ByteArray).size = (34 :: quoted (s.data.toList.take k)).length := List.size_toArray
      simp at this; omega
    by_cases hlt : k < s.size
    · have d1 : decide ((k : Int) < (s.size : Int)) = true := decide_eq_true (by omega)
      have d1' : (k : Int) < (s.size : Int) := by omega
      have d0 : (0 : Int) ≤ (k : Int) := by omega
      have hq := quoted_take s k hlt
      have hex : s.extract k (k + 1) = ⟨#[s[k]'hlt]⟩ := by
        apply ByteArray.ext
        apply Array.ext'
        simp only [ByteArray.data_extract, Array.toList_extract]
        have : s.data.toList.drop k = s[k] :: s.data.toList.drop (k + 1) := List.drop_eq_getElem_cons (by simpa using hlt)
        rw [List.extract_eq_take_drop, this]; simp
      have hst : quoted [s[k]'hlt] = if s[k]'hlt = 34 ∨ s[k]'hlt = 92 then [92, s[k]'hlt] else [s[k]'hlt] := by
        show (if s[k]'hlt = 34 ∨ s[k]'hlt = 92 then _ else _) = _
        split <;> rfl
      rw [hst] at hq
      have n34 : s[k]'hlt = 34 ↔ (s[k]'hlt).toNat = 34 := ⟨fun h => by rw [h]; rfl, fun h => UInt8.toNat_inj.1 h⟩
      have n92 : s[k]'hlt = 92 ↔ (s[k]'hlt).toNat = 92 := ⟨fun h => by rw [h]; rfl, fun h => UInt8.toNat_inj.1 h⟩
      by_cases h34 : s[k]'hlt = 34
      · have d2 : (((s[k]'hlt).toNat : Int) == 34) = true := by rw [beq_iff_eq]; have := n34.1 h34; omega
        rw [if_pos (.inl h34)] at hq
        have hj : (⟨(34 :: quoted (s.data.toList.take k)).toArray⟩ : ByteArray) ++ { data := #[92] } ++ { data := #[s[k]'hlt] } = ⟨(34 :: quoted (s.data.toList.take (k + 1))).toArray⟩ := by rw [hq]; apply ByteArray.ext; simp
        have HJ := Lib.hid hj
        clear hj hq hst n34 n92 h34 hql htk
        generalize (⟨(34 :: quoted (s.data.toList.take k)).toArray⟩ : ByteArray) = S at *
        go_wp2_with fail
        exact ⟨⟨k + 1, by omega, by go_num, by rw [← HJ.out] <;> try (first | rfl | rw [hex]), by trivial⟩, by simp [intOf]; omega⟩
      · have d2 : (((s[k]'hlt).toNat : Int) == 34) = false := by rw [beq_eq_false_iff_ne]; intro h; exact h34 (n34.2 (by omega))
        by_cases h92 : s[k]'hlt = 92
        · have d3 : (((s[k]'hlt).toNat : Int) == 92) = true := by rw [beq_iff_eq]; have := n92.1 h92; omega
          rw [if_pos (.inr h92)] at hq
          have hj : (⟨(34 :: quoted (s.data.toList.take k)).toArray⟩ : ByteArray) ++ { data := #[92] } ++ { data := #[s[k]'hlt] } = ⟨(34 :: quoted (s.data.toList.take (k + 1))).toArray⟩ := by rw [hq]; apply ByteArray.ext; simp
          have HJ := Lib.hid hj
          clear hj hq hst n34 n92 h34 h92 hql htk
          generalize (⟨(34 :: quoted (s.data.toList.take k)).toArray⟩ : ByteArray) = S at *
          go_wp2_with fail
          exact ⟨⟨k + 1, by omega, by go_num, by rw [← HJ.out] <;> try (first | rfl | rw [hex]), by trivial⟩, by simp [intOf]; omega⟩
        · have d3 : (((s[k]'hlt).toNat : Int) == 92) = false := by rw [beq_eq_false_iff_ne]; intro h; exact h92 (n92.2 (by omega))
          rw [if_neg (by rintro (h | h); exact h34 h; exact h92 h)] at hq
          have hj : (⟨(34 :: quoted (s.data.toList.take k)).toArray⟩ : ByteArray) ++ { data := #[s[k]'hlt] } = ⟨(34 :: quoted (s.data.toList.take (k + 1))).toArray⟩ := by rw [hq]; apply ByteArray.ext; simp
          have HJ := Lib.hid hj
          clear hj hq hst n34 n92 h34 h92 hql htk
          generalize (⟨(34 :: quoted (s.data.toList.take k)).toArray⟩ : ByteArray) = S at *
          go_wp2_with fail
          exact ⟨⟨k + 1, by omega, by go_num, by rw [← HJ.out] <;> try (first | rfl | rw [hex]), by trivial⟩, by simp [intOf]; omega⟩
    · obtain rfl : k = s.size := by omega
      have d1 : decide ((s.size : Int) < (s.size : Int)) = false := decide_eq_false (by omega)
      have ht : s.data.toList.take s.size = s.data.toList := List.take_of_length_le (by simp)
      rw [ht] at hz ⊢
      have hj : (⟨(34 :: quoted s.data.toList).toArray⟩ : ByteArray) ++ { data := #[34] } = ⟨(34 :: (quoted s.data.toList ++ [34])).toArray⟩ := by apply ByteArray.ext; simp
      have HJ := Lib.hid hj
      clear hj hql htk
      generalize (⟨(34 :: quoted s.data.toList).toArray⟩ : ByteArray) = S at *
      go_wp2_with fail
      go_ret
      exact ⟨by rw [← HJ.out]; rfl, by trivial⟩
end Go.Proofs.YtmijlcilnaeppaaGreatDoor

/- moraineref03.written, moraineref03.Text. -/
set_option linter.unusedSimpArgs false
set_option linter.unusedVariables false
namespace Go.Proofs.YtmijlcilnaeppaaGreatDoor
open Go Go.RowKit Go.Shelf

set_option maxHeartbeats 2000000 in
set_option maxRecDepth 100000 in
theorem rwrittenIn_any (u : V) (hu : u.flatOk = true) (l : Value) (w : World) :
    Calls Tryz.prog 35 #[valV u.k u.n u.s l] w fun e w' => e = .returned (.string ⟨u.textIn.toArray⟩) ∧ Below w.heap.size w w' := by
  obtain ⟨⟨hk0, hk4⟩, hs, _, hn1, hn2⟩ := flatOk_parts hu
  obtain ⟨uk, un, us, ul⟩ := u
  simp only [V.k, V.n, V.s] at hk0 hk4 hs hn1 hn2 ⊢
  have hb : Below w.heap.size w (w.alloc (.cells #[.int .i64 uk, .int .i64 un, .string us, l] 30)) := (Below.refl _ _).alloc (Nat.le_refl _) _
  have hV := VBox.new w uk un us l
  have hit := fun W => digits_any un (by omega) (by omega) W
  have hq := fun W => quoted_any us (by omega) W
  have hle := Lib.itoa_length_le un (by omega) (by omega)
  have hz : (⟨(Lib.itoa un).toArray⟩ : ByteArray).size ≤ 30 := by
    have : (⟨(Lib.itoa un).toArray⟩ : ByteArray).size = (Lib.itoa un).length := List.size_toArray
    omega
  have hjc : ∀ c : UInt8, (⟨#[c]⟩ : ByteArray) ++ ⟨(Lib.itoa un).toArray⟩ = ⟨(c :: Lib.itoa un).toArray⟩ := fun c => ba_cons c _
  have HJC := Lib.hid hjc
  have hqq : (⟨(34 :: (quoted us.data.toList ++ [34])).toArray⟩ : ByteArray) = ⟨(V.mk 2 un us ul).textIn.toArray⟩ := rfl
  have hii : (⟨(Lib.itoa un).toArray⟩ : ByteArray) = ⟨(V.mk 1 un us ul).textIn.toArray⟩ := rfl
  have HII := Lib.hid hii
  have HIT := Lib.hid hit
  have HQ := Lib.hid hq
  have HB := Lib.hid hb
  clear hit hq hb hu hs hn1 hn2 hle hjc hqq hii
  generalize (⟨(Lib.itoa un).toArray⟩ : ByteArray) = S at *
  have hc : uk = 0 ∨ uk = 1 ∨ uk = 2 ∨ uk = 3 ∨ uk = 4 := by omega
  unfold valV
  rcases hc with rfl | rfl | rfl | rfl | rfl
  · obtain ⟨⟨c0, c1, c2, c3⟩, _⟩ := hV.facts
    go_enter Tryz.func35, Tryz.ntmps35
    go_wp2_with fail
    go_ret
    exact ⟨rfl, HB.out⟩
  · obtain ⟨⟨c0, c1, c2, c3⟩, _⟩ := hV.facts
    go_enter Tryz.func35, Tryz.ntmps35
    go_wp2_with fail
    refine (HIT.out _).mono ?_
    rintro e W1 ⟨rfl, rfl⟩
    go_wp2_with fail
    go_ret
    exact ⟨by rw [← HII.out]; rfl, HB.out⟩
  · obtain ⟨⟨c0, c1, c2, c3⟩, _⟩ := hV.facts
    go_enter Tryz.func35, Tryz.ntmps35
    go_wp2_with fail
    refine (HQ.out _).mono ?_
    rintro e W1 ⟨rfl, rfl⟩
    go_wp2_with fail
    go_ret
    exact ⟨rfl, HB.out⟩
  · obtain ⟨⟨c0, c1, c2, c3⟩, _⟩ := hV.facts
    go_enter Tryz.func35, Tryz.ntmps35
    go_wp2_with fail
    refine (HIT.out _).mono ?_
    rintro e W1 ⟨rfl, rfl⟩
    go_wp2_with fail
    go_ret
    exact ⟨by rw [HJC.out]; rfl, HB.out⟩
  · obtain ⟨⟨c0, c1, c2, c3⟩, _⟩ := hV.facts
    go_enter Tryz.func35, Tryz.ntmps35
    go_wp2_with fail
    refine (HIT.out _).mono ?_
    rintro e W1 ⟨rfl, rfl⟩
    go_wp2_with fail
    go_ret
    exact ⟨by rw [HJC.out]; rfl, HB.out⟩

theorem itemsText_snoc (a : V) (us : List V) (u : V) : itemsText (a :: us ++ [u]) = itemsText (a :: us) ++ 32 :: u.textIn := by
  show a.textIn ++ moreText (us ++ [u]) = (a.textIn ++ moreText us) ++ 32 :: u.textIn
  unfold moreText
  rw [List.flatMap_append, List.append_assoc]
  simp
theorem itemsText_zero (us : List V) (h : 0 < us.length) : itemsText (us.take 1) = us[0].textIn := by
  match us, h with
  | a :: r, _ => show a.textIn ++ moreText [] = _; simp [moreText]
theorem itemsText_succ (us : List V) (i : Nat) (h0 : 0 < i) (h : i < us.length) : itemsText (us.take (i + 1)) = itemsText (us.take i) ++ 32 :: us[i].textIn := by
  rw [List.take_succ_eq_append_getElem h]
  match us, i, h0, h with
  | a :: r, i + 1, _, h => exact itemsText_snoc a (r.take i) _

set_option maxHeartbeats 4000000 in
set_option maxRecDepth 100000 in
theorem rwritten_list (us : List V) (hl : us.length ≤ 12) (hok : ∀ u ∈ us, u.flatOk = true) (its : List It) (hlen : its.length = us.length) (p : Option Addr) (c : Nat) (w : World) (hlies : Lies w (.slice p its.length c) its.length 4 (itsCells its))
    (hsame : ∀ (i : Nat) (h : i < its.length) (h' : i < us.length), its[i].k = us[i].k ∧ its[i].n = us[i].n ∧ its[i].s = us[i].s) :
    Calls Tryz.prog 35 #[valV 5 0 ⟨#[]⟩ (.slice p its.length c)] w fun e w' => e = .returned (.string ⟨(91 :: (itemsText us ++ [93])).toArray⟩) ∧ Below w.heap.size w w' := by
  have hb : Below w.heap.size w (w.alloc (.cells #[.int .i64 5, .int .i64 0, .string ⟨#[]⟩, .slice p its.length c] 30)) := (Below.refl _ _).alloc (Nat.le_refl _) _
  have hV := VBox.new w 5 0 ⟨#[]⟩ (.slice p its.length c)
  have hzero := itemsText_zero us
  have hsucc := itemsText_succ us
  have hbd : ∀ i, (⟨(91 :: itemsText (us.take i)).toArray⟩ : ByteArray).size ≤ 2000 := fun i => by
    have h1 := itemsText_len (us.take i) (fun u hu => hok u (List.mem_of_mem_take hu))
    have h2 : (us.take i).length ≤ 12 := by rw [List.length_take]; omega
    have h3 : (⟨(91 :: itemsText (us.take i)).toArray⟩ : ByteArray).size = (91 :: itemsText (us.take i)).length := List.size_toArray
    rw [List.length_cons] at h3
    omega
  have hti : ∀ (i : Nat) (h : i < us.length), (⟨us[i].textIn.toArray⟩ : ByteArray).size ≤ 130 := fun i h => by
    have h1 := textIn_len (hok _ (List.getElem_mem h))
    have h3 : (⟨us[i].textIn.toArray⟩ : ByteArray).size = us[i].textIn.length := List.size_toArray
    omega
  have hend : itemsText (us.take its.length) = itemsText us := by rw [hlen, List.take_length]
  have hcall : ∀ (i : Nat) (h : i < its.length) (h' : i < us.length) (W : World), Calls Tryz.prog 35 #[its[i].v] W fun e w' => e = .returned (.string ⟨us[i].textIn.toArray⟩) ∧ Below W.heap.size W w' := fun i h h' W => by
    have := rwrittenIn_any us[i] (hok _ (List.getElem_mem h')) (.slice its[i].p its[i].m its[i].c) W
    obtain ⟨e1, e2, e3⟩ := hsame i h h'
    rwa [← e1, ← e2, ← e3] at this
  have HZERO := Lib.hid hzero
  have HSUCC := Lib.hid hsucc
  have HBD := Lib.hid hbd
  have HTI := Lib.hid hti
  have HEND := Lib.hid hend
  have HCALL := Lib.hid hcall
  have HLEN := Lib.hid hlen
  have HL := Lib.hid hlies
  have HB := Lib.hid hb
  have HV := Lib.hid hV
  have hl12 : its.length ≤ 12 := by omega
  obtain ⟨⟨c0, c1, c2, c3⟩, _⟩ := hV.facts
  clear hzero hsucc hbd hti hend hcall hlen hlies hsame hok hl hb hV
  go_enter Tryz.func35, Tryz.ntmps35
  go_wp2_with fail
  clear c0 c1 c2 c3
  go_loopw [3, 4] (fun s3 s4 wr => ∃ i : Nat, i ≤ its.length ∧ s4 = .int .i64 (i : Int) ∧ s3 = .string ⟨(91 :: itemsText (us.take i)).toArray⟩ ∧ Below w.heap.size w wr ∧ VBox wr w.heap.size 5 0 ⟨#[]⟩ (.slice p its.length c)) (fun _ s4 _ => its.length - (intOf s4).toNat)
  case atStart => exact ⟨0, by omega, rfl, by simp [itemsText], HB.out, HV.out⟩
  case round =>
    obtain ⟨i, hil, rfl, rfl, hB, hVr⟩ := hrel
    obtain ⟨⟨c0, c1, c2, c3⟩, _⟩ := hVr.facts
    have hbd := HBD.out i
    by_cases hlt : i < its.length
    · have d1 : decide ((i : Int) < (its.length : Int)) = true := decide_eq_true (by omega)
      have d0 : (0 : Int) ≤ (i : Int) := by omega
      have d3 : (i : Int) < (its.length : Int) := by omega
      have hiu : i < us.length := by have := HLEN.out; omega
      obtain ⟨b, off, rfl, hbb, hc⟩ := HL.out.at (by omega)
      have hcx : ∀ (j : Nat) (u : Value), ((its[i]'hlt).cells)[j]? = some u → wr.cell? ⟨b, off + i * 4 + j, none⟩ = some u := fun j u hu => by
        rw [hB.cell (p := ⟨b, off + i * 4 + j, none⟩) hbb, Nat.add_assoc]
        exact hc _ _ (itsCells_at its i hlt j u hu)
      have hcall := HCALL.out i hlt hiu
      have hti := HTI.out i hiu
      have hz := fun (h : i = 0) => HZERO.out (by omega)
      have hs := fun (h : 0 < i) => HSUCC.out i h hiu
      have hz' : i = 0 → itemsText (us.take (i + 1)) = us[i].textIn := fun h => by subst h; exact hz rfl
      generalize us[i].textIn = T at hcall hti hs hz'
      generalize its[i]'hlt = z at hcx hcall
      obtain ⟨yk, yn, ys, yp, ym, yc⟩ := z
      have z0 : wr.cell? ⟨b, off + i * 4, none⟩ = some (.int .i64 yk) := hcx 0 _ rfl
      have z1 := hcx 1 _ rfl
      have z2 := hcx 2 _ rfl
      have z3 := hcx 3 _ rfl
      have HC := Lib.hid hcall
      have HB1 := Lib.hid hB
      have HV1 := Lib.hid hVr
      clear hcx hc hcall hz hB hVr
      by_cases h0 : i = 0
      · have d4 : decide ((0 : Int) < (i : Int)) = false := decide_eq_false (by omega)
        have d4' : ¬ (0 : Int) < (i : Int) := by omega
        have hj : (⟨(91 :: itemsText (us.take i)).toArray⟩ : ByteArray) ++ ⟨T.toArray⟩ = ⟨(91 :: itemsText (us.take (i + 1))).toArray⟩ := by
          rw [hz' h0]; subst h0; apply ByteArray.ext; simp [itemsText]
        have HJ := Lib.hid hj
        clear hj hs hz' h0
        generalize (⟨(91 :: itemsText (us.take i)).toArray⟩ : ByteArray) = S at *
        generalize (⟨T.toArray⟩ : ByteArray) = U at *
        go_wp2_with fail
        refine (HC.out _).mono ?_
        rintro e W1 ⟨rfl, hB1⟩
        go_wp2_with fail
        exact ⟨⟨i + 1, by omega, by go_num, by rw [← HJ.out], HB1.out.trans (hB1.mono HB1.out.size), HV1.out.below hB1⟩, by simp [intOf]; omega⟩
      · have d4 : decide ((0 : Int) < (i : Int)) = true := decide_eq_true (by omega)
        have d4' : (0 : Int) < (i : Int) := by omega
        have hj : (⟨(91 :: itemsText (us.take i)).toArray⟩ : ByteArray) ++ { data := #[32] } ++ ⟨T.toArray⟩ = ⟨(91 :: itemsText (us.take (i + 1))).toArray⟩ := by
          rw [hs (by omega)]; apply ByteArray.ext; simp
        have HJ := Lib.hid hj
        clear hj hs hz' h0
        generalize (⟨(91 :: itemsText (us.take i)).toArray⟩ : ByteArray) = S at *
        generalize (⟨T.toArray⟩ : ByteArray) = U at *
        go_wp2_with fail
        refine (HC.out _).mono ?_
        rintro e W1 ⟨rfl, hB1⟩
        go_wp2_with fail
        exact ⟨⟨i + 1, by omega, by go_num, by rw [← HJ.out], HB1.out.trans (hB1.mono HB1.out.size), HV1.out.below hB1⟩, by simp [intOf]; omega⟩
    · obtain rfl : i = its.length := by omega
      have d1 : decide ((its.length : Int) < (its.length : Int)) = false := decide_eq_false (by omega)
      have hj : (⟨(91 :: itemsText (us.take its.length)).toArray⟩ : ByteArray) ++ { data := #[93] } = ⟨(91 :: (itemsText us ++ [93])).toArray⟩ := by rw [HEND.out]; apply ByteArray.ext; simp
      have HJ := Lib.hid hj
      clear hj
      generalize (⟨(91 :: itemsText (us.take its.length)).toArray⟩ : ByteArray) = S at *
      go_wp2_with fail
      go_ret
      exact ⟨by rw [← HJ.out]; rfl, hB⟩

theorem rwritten_any {d : Nat} (v : V) (hok : v.ok = true) (x : It) (w : World) (hx : VAt d w v x) :
    Calls Tryz.prog 35 #[x.v] w fun e w' => e = .returned (.string ⟨v.text.toArray⟩) ∧ Below w.heap.size w w' := by
  obtain ⟨hfine, hk, hn, hs, ys, hlen, hlies, hin⟩ := hx.top
  have hm := hx.top.len
  obtain ⟨xk, xn, xs, xp, xm, xc⟩ := x
  simp only at hk hn hs hm hlies
  subst hm
  by_cases h5 : v.k = 5
  · obtain ⟨e, hl, hu⟩ := ok_list hok h5
    have h1 : v.n = 0 := by rw [e]; rfl
    have h2 : v.s = ⟨#[]⟩ := by rw [e]; rfl
    have h := rwritten_list v.l hl (fun u h => (okIn_parts (hu u h)).2) ys hlen xp xc w (by rw [hlen] at hlies ⊢; exact hlies) (fun i a b => ⟨(hin i a b).same.1, (hin i a b).same.2.1, (hin i a b).same.2.2.1⟩)
    have et : v.text = 91 :: (itemsText v.l ++ [93]) := by unfold V.text; rw [if_pos h5]
    rw [et]
    rw [hlen] at h
    subst hk hn hs
    rw [← h5, ← h1, ← h2] at h
    exact h
  · have et : v.text = v.textIn := by unfold V.text; rw [if_neg h5]
    rw [et]
    subst hk hn hs
    exact rwrittenIn_any v (ok_flat hok h5) (.slice xp v.l.length xc) w

set_option maxHeartbeats 2000000 in
set_option maxRecDepth 100000 in
theorem rvtext_any {d : Nat} (v : V) (x : It) (w : World) (hx : VAt d w v x) (hsh : v.short) :
    Calls Tryz.prog 10 #[x.v] w fun e w' => e = .returned (.tuple #[.string ⟨(if v.ok then v.text else []).toArray⟩, .int .i64 (if v.ok then 0 else 30)]) ∧ Below w.heap.size w w' := by
  have hr := fun W (h : Below w.heap.size w W) => rright_V d v x W (hx.below h) hsh
  have hw := fun (hok : v.ok = true) W (h : Below w.heap.size w W) => rwritten_any v hok x W (hx.below h)
  generalize v.ok = ok at hr hw ⊢
  generalize v.text = T at hw ⊢
  obtain ⟨xk, xn, xs, xp, xm, xc⟩ := x
  have hV := VBox.new w xk xn xs (.slice xp xm xc)
  have hb : Below w.heap.size w (w.alloc (.cells #[.int .i64 xk, .int .i64 xn, .string xs, .slice xp xm xc] 30)) := (Below.refl _ _).alloc (Nat.le_refl _) _
  have HR := Lib.hid hr
  have HW := Lib.hid hw
  have HB := Lib.hid hb
  have HV := Lib.hid hV
  clear hr hw hb hx
  obtain ⟨⟨c0, c1, c2, c3⟩, _⟩ := hV.facts
  go_enter Tryz.func10, Tryz.ntmps10
  go_wp2_with fail
  refine (HR.out _ HB.out).mono ?_
  rintro e W1 ⟨rfl, hB1⟩
  have hB2 := HB.out.trans (hB1.mono HB.out.size)
  have hV1 := HV.out.below hB1
  clear c0 c1 c2 c3 hB1
  obtain ⟨⟨c0, c1, c2, c3⟩, _⟩ := hV1.facts
  cases ok with
  | false =>
    go_wp2_with fail
    exact bodyPost_ret (v := .tuple #[.string ⟨#[]⟩, .int .i64 30]) (by simp [results, Tryz.results10, go_sem]) rfl ⟨rfl, hB2⟩
  | true =>
    go_wp2_with fail
    refine (HW.out (by trivial) _ hB2).mono ?_
    rintro e W2 ⟨rfl, hB3⟩
    go_wp2_with fail
    exact bodyPost_ret (v := .tuple #[.string ⟨T.toArray⟩, .int .i64 0]) (by simp [results, Tryz.results10, go_sem]) rfl ⟨rfl, hB2.trans (hB3.mono hB2.size)⟩
end Go.Proofs.YtmijlcilnaeppaaGreatDoor

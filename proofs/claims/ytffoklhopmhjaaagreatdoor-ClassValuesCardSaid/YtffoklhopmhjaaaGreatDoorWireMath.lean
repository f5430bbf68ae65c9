/- Numbers' bytes of layer 1 as plain lists: no program, no model. -/
namespace Wire

/-- the groups of a number that stand behind the first one -/
def restGroups (r : Nat) : List Nat := if r = 0 then [] else r % 128 :: restGroups (r / 128)
termination_by r
decreasing_by omega

theorem restGroups_zero : restGroups 0 = [] := by rw [restGroups]; simp
theorem restGroups_pos {r : Nat} (h : 0 < r) : restGroups r = r % 128 :: restGroups (r / 128) := by
  rw [restGroups]; simp; omega

/-- the groups of a number whose M and sign these are -/
def groupsM (m s : Nat) : List Nat := (m % 64 * 2 + s) :: restGroups (m / 64)

/-- M and sign of a number -/
def mOf (n : Int) : Nat := if n < 0 then (-1 - n).toNat else n.toNat
def sOf (n : Int) : Nat := if n < 0 then 1 else 0

def groups (n : Int) : List UInt8 := (groupsM (mOf n) (sOf n)).map UInt8.ofNat

theorem groups_split (n : Int) : groups n = [UInt8.ofNat (mOf n % 64 * 2 + sOf n)] ++ (restGroups (mOf n / 64)).map UInt8.ofNat := by
  simp [groups, groupsM]

theorem ofNat_toNat {k : Nat} (h : k < 256) : (UInt8.ofNat k).toNat = k := by simp; omega

/-- groups as they are laid: 128 is added to each but the last one -/
def laidOf : List UInt8 → List UInt8
  | [] => []
  | [b] => [b]
  | b :: c :: r => (b + 128) :: laidOf (c :: r)

theorem laidOf_length : ∀ l, (laidOf l).length = l.length
  | [] => rfl
  | [_] => rfl
  | _ :: c :: r => by simp [laidOf, laidOf_length (c :: r)]

theorem laidOf_snoc2 : ∀ (p : List UInt8) (b c : UInt8), laidOf (p ++ [b] ++ [c]) = ((laidOf (p ++ [b])).set p.length (b + 128)) ++ [c]
  | [], b, c => by simp [laidOf]
  | [a], b, c => by simp [laidOf]
  | a :: a' :: p, b, c => by
    have := laidOf_snoc2 (a' :: p) b c
    simp only [List.cons_append, List.nil_append, List.append_assoc] at this ⊢
    simp [laidOf, this]

theorem laidOf_last : ∀ (p : List UInt8) (b : UInt8), (laidOf (p ++ [b]))[p.length]? = some b
  | [], b => by simp [laidOf]
  | [a], b => by simp [laidOf]
  | a :: a' :: p, b => by
    have := laidOf_last (a' :: p) b
    simp only [List.cons_append] at this ⊢
    simpa [laidOf] using this

/-- a number's bytes -/
def num (n : Int) : List UInt8 := laidOf (groups n)

theorem restGroups_length : ∀ (k r : Nat), r < 128 ^ k → (restGroups r).length ≤ k
  | 0, r, h => by obtain rfl : r = 0 := by simp at h; omega
                  simp [restGroups_zero]
  | k + 1, r, h => by
    by_cases h0 : 0 < r
    · rw [restGroups_pos h0]
      have := restGroups_length k (r / 128) (by rw [Nat.pow_succ] at h; omega)
      simp; omega
    · obtain rfl : r = 0 := by omega
      simp [restGroups_zero]

theorem groups_length (n : Int) (h0 : -9223372036854775808 ≤ n) (h1 : n ≤ 9223372036854775807) : (groups n).length ≤ 10 := by
  have : (restGroups (mOf n / 64)).length ≤ 9 := restGroups_length 9 _ (by
    have : mOf n ≤ 9223372036854775807 := by unfold mOf; split <;> omega
    simp; omega)
  simp [groups_split]; omega
theorem groups_ne (n : Int) : groups n ≠ [] := by simp [groups_split]
theorem num_length (n : Int) : (num n).length = (groups n).length := laidOf_length _

/-- a sum of 64 bits -/
def w64 (n : Int) : Int := (n + 9223372036854775808) % 18446744073709551616 - 9223372036854775808

/-- sign and rest, as they are read: the byte at place k -/
def decStep (k : Nat) (a : Int × Int) (b : UInt8) : Int × Int :=
  if k = 0 then ((b.toNat : Int) % 2, (b.toNat : Int) % 128 / 2) else (a.1, w64 (a.2 + w64 ((b.toNat : Int) % 128 * 2 ^ (7 * k - 1))))
def decFrom : Nat → Int × Int → List UInt8 → Int × Int
  | _, a, [] => a
  | k, a, b :: l => decFrom (k + 1) (decStep k a b) l
def dec (l : List UInt8) : Int × Int := decFrom 0 (0, 0) l

theorem decFrom_snoc : ∀ (l : List UInt8) (k : Nat) (a : Int × Int) (b : UInt8), decFrom k a (l ++ [b]) = decStep (k + l.length) (decFrom k a l) b
  | [], k, a, b => rfl
  | c :: l, k, a, b => by
    simp only [List.cons_append, decFrom, List.length_cons]
    rw [decFrom_snoc l (k + 1)]
    congr 1; omega
theorem dec_snoc (l : List UInt8) (b : UInt8) : dec (l ++ [b]) = decStep l.length (dec l) b := by
  unfold dec; rw [decFrom_snoc]; simp

theorem w64_range (n : Int) : -9223372036854775808 ≤ w64 n ∧ w64 n ≤ 9223372036854775807 := by unfold w64; omega

theorem decFrom_range : ∀ (l : List UInt8) (k : Nat) (a : Int × Int), (0 ≤ a.1 ∧ a.1 ≤ 1 ∧ -9223372036854775808 ≤ a.2 ∧ a.2 ≤ 9223372036854775807) →
    (0 ≤ (decFrom k a l).1 ∧ (decFrom k a l).1 ≤ 1 ∧ -9223372036854775808 ≤ (decFrom k a l).2 ∧ (decFrom k a l).2 ≤ 9223372036854775807)
  | [], _, _, h => h
  | b :: l, k, a, h => by
    refine decFrom_range l (k + 1) _ ?_
    unfold decStep
    split
    · have := b.toNat_lt; simp only; omega
    · have := w64_range (a.2 + w64 ((b.toNat : Int) % 128 * 2 ^ (7 * k - 1))); simp only; omega
theorem dec_range (l : List UInt8) : 0 ≤ (dec l).1 ∧ (dec l).1 ≤ 1 ∧ -9223372036854775808 ≤ (dec l).2 ∧ (dec l).2 ≤ 9223372036854775807 :=
  decFrom_range l 0 _ (by simp)

/-- the number that sign and rest are -/
def valOf (a : Int × Int) : Int := if a.1 = 1 then -1 - a.2 else a.2

/-- an int of 64 bits -/
def inRange (n : Int) : Prop := -9223372036854775808 ≤ n ∧ n ≤ 9223372036854775807

theorem restGroups_lt : ∀ (n r : Nat), r ≤ n → ∀ x ∈ restGroups r, x < 128
  | 0, r, h, x, hx => by obtain rfl : r = 0 := by omega
                         simp [restGroups_zero] at hx
  | n + 1, r, h, x, hx => by
    by_cases h0 : 0 < r
    · rw [restGroups_pos h0] at hx
      rcases List.mem_cons.1 hx with rfl | hx
      · omega
      · exact restGroups_lt n (r / 128) (by omega) x hx
    · obtain rfl : r = 0 := by omega
      simp [restGroups_zero] at hx

theorem sOf_le (n : Int) : sOf n ≤ 1 := by unfold sOf; split <;> omega

theorem groups_lt (n : Int) : ∀ b ∈ groups n, b.toNat < 128 := by
  intro b hb
  have hs := sOf_le n
  simp only [groups, groupsM, List.map_cons, List.mem_cons, List.mem_map] at hb
  rcases hb with rfl | ⟨x, hx, rfl⟩
  · rw [ofNat_toNat (by omega)]; omega
  · have := restGroups_lt _ _ (Nat.le_refl _) x hx
    rw [ofNat_toNat (by omega)]; omega

theorem add128 {b : UInt8} (h : b.toNat < 128) : (b + 128).toNat = b.toNat + 128 := by
  rw [UInt8.toNat_add]; simp; omega

/-- all bytes but the last one are 128 or more -/
theorem laidOf_form : ∀ (l : List UInt8), l ≠ [] → (∀ b ∈ l, b.toNat < 128) → ∃ i x, laidOf l = i ++ [x] ∧ (∀ b ∈ i, 128 ≤ b.toNat) ∧ x.toNat < 128
  | [], h, _ => absurd rfl h
  | [b], _, h => ⟨[], b, rfl, by simp, h b (by simp)⟩
  | b :: c :: r, _, h => by
    obtain ⟨i, x, e, h1, h2⟩ := laidOf_form (c :: r) (by simp) (fun y hy => h y (List.mem_cons_of_mem _ hy))
    refine ⟨(b + 128) :: i, x, by rw [laidOf, e]; rfl, ?_, h2⟩
    intro y hy
    rcases List.mem_cons.1 hy with rfl | hy
    · rw [add128 (h b (by simp))]; omega
    · exact h1 y hy

theorem num_form (n : Int) : ∃ i x, num n = i ++ [x] ∧ (∀ b ∈ i, 128 ≤ b.toNat) ∧ x.toNat < 128 :=
  laidOf_form _ (groups_ne n) (groups_lt n)

theorem decStep_add (k : Nat) (a : Int × Int) {b : UInt8} (h : b.toNat < 128) : decStep k a (b + 128) = decStep k a b := by
  have h1 : ((b + 128).toNat : Int) % 128 = (b.toNat : Int) % 128 := by rw [add128 h]; omega
  have h2 : ((b + 128).toNat : Int) % 2 = (b.toNat : Int) % 2 := by rw [add128 h]; omega
  simp only [decStep, h1, h2]

theorem decFrom_laid : ∀ (l : List UInt8) (k : Nat) (a : Int × Int), (∀ b ∈ l, b.toNat < 128) → decFrom k a (laidOf l) = decFrom k a l
  | [], _, _, _ => rfl
  | [b], _, _, _ => rfl
  | b :: c :: r, k, a, h => by
    rw [laidOf, decFrom, decStep_add _ _ (h b (by simp)), decFrom_laid (c :: r) (k + 1) _ (fun y hy => h y (List.mem_cons_of_mem _ hy))]
    rfl

theorem w64_id {n : Int} (h0 : -9223372036854775808 ≤ n) (h1 : n ≤ 9223372036854775807) : w64 n = n := by unfold w64; omega

theorem decFrom_rest (n : Nat) : ∀ (r k : Nat) (s acc : Int), r ≤ n → 1 ≤ k → 0 ≤ acc → acc + (r : Int) * 2 ^ (7 * k - 1) ≤ 9223372036854775807 →
    decFrom k (s, acc) ((restGroups r).map UInt8.ofNat) = (s, acc + (r : Int) * 2 ^ (7 * k - 1)) := by
  induction n with
  | zero =>
    intro r k s acc h hk ha hm
    obtain rfl : r = 0 := by omega
    simp [restGroups_zero, decFrom]
  | succ n ih =>
    intro r k s acc h hk ha hm
    by_cases h0 : 0 < r
    · rw [restGroups_pos h0, List.map_cons, decFrom]
      have hp : (0 : Int) < 2 ^ (7 * k - 1) := Int.pow_pos (by decide)
      have hpow : (2 : Int) ^ (7 * (k + 1) - 1) = 128 * 2 ^ (7 * k - 1) := by
        rw [show 7 * (k + 1) - 1 = 7 + (7 * k - 1) from by omega, Int.pow_add]; rfl
      have hsplit : (r : Int) * 2 ^ (7 * k - 1) = ((r % 128 : Nat) : Int) * 2 ^ (7 * k - 1) + ((r / 128 : Nat) : Int) * 2 ^ (7 * (k + 1) - 1) := by
        rw [hpow, ← Int.mul_assoc, ← Int.add_mul]; congr 1; omega
      have hA : 0 ≤ ((r % 128 : Nat) : Int) * 2 ^ (7 * k - 1) := Int.mul_nonneg (by omega) (Int.le_of_lt hp)
      have hB : 0 ≤ ((r / 128 : Nat) : Int) * 2 ^ (7 * (k + 1) - 1) := Int.mul_nonneg (by omega) (by rw [hpow]; omega)
      have hst : decStep k (s, acc) (UInt8.ofNat (r % 128)) = (s, acc + ((r % 128 : Nat) : Int) * 2 ^ (7 * k - 1)) := by
        unfold decStep
        rw [if_neg (by omega), ofNat_toNat (by omega), show (((r % 128 : Nat) : Int)) % 128 = ((r % 128 : Nat) : Int) from by omega]
        simp only
        rw [w64_id (n := ((r % 128 : Nat) : Int) * 2 ^ (7 * k - 1)) (by omega) (by omega), w64_id (by omega) (by omega)]
      rw [hst, ih (r / 128) (k + 1) s _ (by omega) (by omega) (by omega) (by omega)]
      congr 1; omega
    · obtain rfl : r = 0 := by omega
      simp [restGroups_zero, decFrom]

/-- what is written is read -/
theorem dec_num (n : Int) (h : inRange n) : valOf (dec (num n)) = n := by
  unfold dec num
  rw [decFrom_laid _ _ _ (groups_lt n)]
  have hs := sOf_le n
  have hm : (mOf n : Int) = if n < 0 then -1 - n else n := by unfold mOf; split <;> omega
  have hml : mOf n ≤ 9223372036854775807 := by unfold inRange at h; unfold mOf; split <;> omega
  have hb : (UInt8.ofNat (mOf n % 64 * 2 + sOf n)).toNat = mOf n % 64 * 2 + sOf n := ofNat_toNat (by omega)
  rw [groups_split, List.singleton_append, decFrom]
  have hst : decStep 0 (0, 0) (UInt8.ofNat (mOf n % 64 * 2 + sOf n)) = ((sOf n : Int), ((mOf n % 64 : Nat) : Int)) := by
    unfold decStep
    rw [if_pos rfl, hb]
    congr 1 <;> omega
  rw [hst, decFrom_rest _ (mOf n / 64) (0 + 1) _ _ (Nat.le_refl _) (by omega) (by omega) (by
    show _ + _ * (2 : Int) ^ 6 ≤ _
    omega)]
  have e6 : ((mOf n % 64 : Nat) : Int) + ((mOf n / 64 : Nat) : Int) * 2 ^ (7 * (0 + 1) - 1) = (mOf n : Int) := by
    show _ + _ * (2 : Int) ^ 6 = _
    omega
  rw [e6]
  unfold valOf sOf
  by_cases hn : n < 0
  · simp only [hn, if_true] at hm ⊢; simp; omega
  · simp only [hn, if_false] at hm ⊢; simp; omega

/-- of a text whose first byte below 128 stands at place k no other number's bytes are a beginning -/
theorem num_at {l : List UInt8} {k : Nat} {b : UInt8} (hk : l[k]? = some b) (hb : b.toNat < 128) (hc : ∀ x ∈ l.take k, 128 ≤ x.toNat) {v : Int} (h : num v <+: l) :
    num v = l.take (k + 1) := by
  obtain ⟨i, x, e, h1, h2⟩ := num_form v
  obtain ⟨t, ht⟩ := h
  have hlt : k < l.length := (List.getElem?_eq_some_iff.1 hk).1
  have hi : i.length = k := by
    rcases Nat.lt_trichotomy i.length k with hlt' | heq | hgt
    · exfalso
      have : x ∈ l.take k := by
        rw [← ht, e, List.append_assoc, List.take_append]
        refine List.mem_append_right _ ?_
        rw [List.singleton_append, show k - i.length = (k - i.length - 1) + 1 from by omega, List.take_succ_cons]
        exact List.mem_cons_self
      have := hc x this; omega
    · exact heq
    · exfalso
      have : l[k]? = i[k]? := by
        rw [← ht, e, List.append_assoc, List.getElem?_append_left hgt]
      rw [hk, List.getElem?_eq_getElem hgt] at this
      have hmem := h1 i[k] (List.getElem_mem hgt)
      simp only [Option.some.injEq] at this
      rw [← this] at hmem; omega
  have hlen : (num v).length = k + 1 := by rw [e]; simp [hi]
  rw [← ht, ← hlen, List.take_left]

theorem num_unique {l : List UInt8} {k : Nat} {b : UInt8} (hk : l[k]? = some b) (hb : b.toNat < 128) (hc : ∀ x ∈ l.take k, 128 ≤ x.toNat) {v : Int} (hv : inRange v) (h : num v <+: l) :
    v = valOf (dec (l.take (k + 1))) ∧ (num v).length = k + 1 := by
  have e := num_at hk hb hc h
  refine ⟨by rw [← e, dec_num v hv], ?_⟩
  rw [e]; simp
  have := (List.getElem?_eq_some_iff.1 hk).1
  omega

theorem num_len (v : Int) (hv : inRange v) : (num v).length ≤ 10 := by rw [num_length]; exact groups_length v hv.1 hv.2

/-- no number stands where the first ten bytes, or all that there are, are 128 or more -/
theorem num_none {l : List UInt8} {k : Nat} (hc : ∀ x ∈ l.take k, 128 ≤ x.toNat) (hk : 10 ≤ k ∨ l.length ≤ k) (v : Int) (hv : inRange v) : ¬ num v <+: l := by
  intro h
  obtain ⟨i, x, e, h1, h2⟩ := num_form v
  have hlen : i.length + 1 ≤ 10 := by have := num_len v hv; rw [e] at this; simpa using this
  have hle := h.length_le
  rw [e] at hle
  simp only [List.length_append, List.length_cons, List.length_nil] at hle
  have hm : num v <+: l.take k := by
    rw [List.prefix_take_iff]
    refine ⟨h, ?_⟩
    rw [e]; simp; omega
  have : x ∈ l.take k := hm.subset (by rw [e]; simp)
  have := hc x this; omega

theorem num_inj {l : List UInt8} {v v' : Int} (hv : inRange v) (hv' : inRange v') (h : num v <+: l) (h' : num v' <+: l) : v = v' := by
  obtain ⟨i, x, e, h1, h2⟩ := num_form v
  obtain ⟨t, ht⟩ := id h
  have hl : l = i ++ [x] ++ t := by rw [← ht, e]
  have hk : l[i.length]? = some x := by
    rw [hl, List.append_assoc, List.getElem?_append_right (Nat.le_refl _), Nat.sub_self]; rfl
  have hc : ∀ y ∈ l.take i.length, 128 ≤ y.toNat := by
    rw [hl, List.append_assoc, List.take_left]; exact h1
  rw [(num_unique hk h2 hc hv h).1, (num_unique hk h2 hc hv' h').1]

end Wire

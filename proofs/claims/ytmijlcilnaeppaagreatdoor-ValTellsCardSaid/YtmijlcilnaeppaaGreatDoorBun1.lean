/- Texts put together: WireMath, WireGroups, WireNum, WireText, Build, ValUtf. -/
import Derived.RangeFuncBox
import Derived.RangeFuncBound
import Derived.RangeFuncCalls
import Derived.RangeFuncLeaves
import Derived.Shelf.Abstract
import Derived.Shelf.RegionOpen
import Derived.WalkKit
import Derived.OwnWalkIn
import Derived.TacticsInMore
import Derived.LoopNIn
import Derived.LoopIn
import Derived.Lib.Hide
import Derived.Outline
import Derived.IntWalk
import Derived.Test.YtmijlcilnaeppaaGreatDoorProg
import Derived.Maps.AppendAt
import Derived.Laws.OwnMore
import Derived.Laws.IdiomStrings
import Derived.WalkLawsBesides
import Derived.WalkSpells
import Derived.Lib.Strings
import Derived.Below
import Derived.Lib.FrozenHead2
import Derived.Lib.OthersKept
import Derived.Shelf.Strings.BuilderK
import Derived.Lib.ValidLaws
/- Numbers' bytes of layer 1 as plain lists: no program, no model. -/
namespace Wire

/-- the groups of a number that stand behind the first one -/
def restGroups (r : Nat) : List Nat := if r = 0 then [] else r % 128 :: restGroups (r / 128)
termination_by r
decreasing_by omega

theorem restGroups_zero : restGroups 0 = [] := by rw [restGroups]; simp
theorem restGroups_pos {r : Nat} (h : 0 < r) : restGroups r = r % 128 :: restGroups (r / 128) := by
  rw [restGroups]; simp; omega

/-- the groups of a number whose M and sign these are -/
def groupsM (m s : Nat) : List Nat := (m % 64 * 2 + s) :: restGroups (m / 64)

/-- M and sign of a number -/
def mOf (n : Int) : Nat := if n < 0 then (-1 - n).toNat else n.toNat
def sOf (n : Int) : Nat := if n < 0 then 1 else 0

def groups (n : Int) : List UInt8 := (groupsM (mOf n) (sOf n)).map UInt8.ofNat

theorem groups_split (n : Int) : groups n = [UInt8.ofNat (mOf n % 64 * 2 + sOf n)] ++ (restGroups (mOf n / 64)).map UInt8.ofNat := by
  simp [groups, groupsM]

theorem ofNat_toNat {k : Nat} (h : k < 256) : (UInt8.ofNat k).toNat = k := by simp; omega

/-- groups as they are laid: 128 is added to each but the last one -/
def laidOf : List UInt8 → List UInt8
  | [] => []
  | [b] => [b]
  | b :: c :: r => (b + 128) :: laidOf (c :: r)

theorem laidOf_length : ∀ l, (laidOf l).length = l.length
  | [] => rfl
  | [_] => rfl
  | _ :: c :: r => by simp [laidOf, laidOf_length (c :: r)]

theorem laidOf_snoc2 : ∀ (p : List UInt8) (b c : UInt8), laidOf (p ++ [b] ++ [c]) = ((laidOf (p ++ [b])).set p.length (b + 128)) ++ [c]
  | [], b, c => by simp [laidOf]
  | [a], b, c => by simp [laidOf]
  | a :: a' :: p, b, c => by
    have := laidOf_snoc2 (a' :: p) b c
    simp only [List.cons_append, List.nil_append, List.append_assoc] at this ⊢
    simp [laidOf, this]

theorem laidOf_last : ∀ (p : List UInt8) (b : UInt8), (laidOf (p ++ [b]))[p.length]? = some b
  | [], b => by simp [laidOf]
  | [a], b => by simp [laidOf]
  | a :: a' :: p, b => by
    have := laidOf_last (a' :: p) b
    simp only [List.cons_append] at this ⊢
    simpa [laidOf] using this

/-- a number's bytes -/
def num (n : Int) : List UInt8 := laidOf (groups n)

theorem restGroups_length : ∀ (k r : Nat), r < 128 ^ k → (restGroups r).length ≤ k
  | 0, r, h => by obtain rfl : r = 0 := by simp at h; omega
                  simp [restGroups_zero]
  | k + 1, r, h => by
    by_cases h0 : 0 < r
    · rw [restGroups_pos h0]
      have := restGroups_length k (r / 128) (by rw [Nat.pow_succ] at h; omega)
      simp; omega
    · obtain rfl : r = 0 := by omega
      simp [restGroups_zero]

theorem groups_length (n : Int) (h0 : -9223372036854775808 ≤ n) (h1 : n ≤ 9223372036854775807) : (groups n).length ≤ 10 := by
  have : (restGroups (mOf n / 64)).length ≤ 9 := restGroups_length 9 _ (by
    have : mOf n ≤ 9223372036854775807 := by unfold mOf; split <;> omega
    simp; omega)
  simp [groups_split]; omega
theorem groups_ne (n : Int) : groups n ≠ [] := by simp [groups_split]
theorem num_length (n : Int) : (num n).length = (groups n).length := laidOf_length _

/-- a sum of 64 bits -/
def w64 (n : Int) : Int := (n + 9223372036854775808) % 18446744073709551616 - 9223372036854775808

/-- sign and rest, as they are read: the byte at place k -/
def decStep (k : Nat) (a : Int × Int) (b : UInt8) : Int × Int :=
  if k = 0 then ((b.toNat : Int) % 2, (b.toNat : Int) % 128 / 2) else (a.1, w64 (a.2 + w64 ((b.toNat : Int) % 128 * 2 ^ (7 * k - 1))))
def decFrom : Nat → Int × Int → List UInt8 → Int × Int
  | _, a, [] => a
  | k, a, b :: l => decFrom (k + 1) (decStep k a b) l
def dec (l : List UInt8) : Int × Int := decFrom 0 (0, 0) l

theorem decFrom_snoc : ∀ (l : List UInt8) (k : Nat) (a : Int × Int) (b : UInt8), decFrom k a (l ++ [b]) = decStep (k + l.length) (decFrom k a l) b
  | [], k, a, b => rfl
  | c :: l, k, a, b => by
    simp only [List.cons_append, decFrom, List.length_cons]
    rw [decFrom_snoc l (k + 1)]
    congr 1; omega
theorem dec_snoc (l : List UInt8) (b : UInt8) : dec (l ++ [b]) = decStep l.length (dec l) b := by
  unfold dec; rw [decFrom_snoc]; simp

theorem w64_range (n : Int) : -9223372036854775808 ≤ w64 n ∧ w64 n ≤ 9223372036854775807 := by unfold w64; omega

theorem decFrom_range : ∀ (l : List UInt8) (k : Nat) (a : Int × Int), (0 ≤ a.1 ∧ a.1 ≤ 1 ∧ -9223372036854775808 ≤ a.2 ∧ a.2 ≤ 9223372036854775807) →
    (0 ≤ (decFrom k a l).1 ∧ (decFrom k a l).1 ≤ 1 ∧ -9223372036854775808 ≤ (decFrom k a l).2 ∧ (decFrom k a l).2 ≤ 9223372036854775807)
  | [], _, _, h => h
  | b :: l, k, a, h => by
    refine decFrom_range l (k + 1) _ ?_
    unfold decStep
    split
    · have := b.toNat_lt; simp only; omega
    · have := w64_range (a.2 + w64 ((b.toNat : Int) % 128 * 2 ^ (7 * k - 1))); simp only; omega
theorem dec_range (l : List UInt8) : 0 ≤ (dec l).1 ∧ (dec l).1 ≤ 1 ∧ -9223372036854775808 ≤ (dec l).2 ∧ (dec l).2 ≤ 9223372036854775807 :=
  decFrom_range l 0 _ (by simp)

/-- the number that sign and rest are -/
def valOf (a : Int × Int) : Int := if a.1 = 1 then -1 - a.2 else a.2

/-- an int of 64 bits -/
def inRange (n : Int) : Prop := -9223372036854775808 ≤ n ∧ n ≤ 9223372036854775807

theorem restGroups_lt : ∀ (n r : Nat), r ≤ n → ∀ x ∈ restGroups r, x < 128
  | 0, r, h, x, hx => by obtain rfl : r = 0 := by omega
                         simp [restGroups_zero] at hx
  | n + 1, r, h, x, hx => by
    by_cases h0 : 0 < r
    · rw [restGroups_pos h0] at hx
      rcases List.mem_cons.1 hx with rfl | hx
      · omega
      · exact restGroups_lt n (r / 128) (by omega) x hx
    · obtain rfl : r = 0 := by omega
      simp [restGroups_zero] at hx

theorem sOf_le (n : Int) : sOf n ≤ 1 := by unfold sOf; split <;> omega

theorem groups_lt (n : Int) : ∀ b ∈ groups n, b.toNat < 128 := by
  intro b hb
  have hs := sOf_le n
  simp only [groups, groupsM, List.map_cons, List.mem_cons, List.mem_map] at hb
  rcases hb with rfl | ⟨x, hx, rfl⟩
  · rw [ofNat_toNat (by omega)]; omega
  · have := restGroups_lt _ _ (Nat.le_refl _) x hx
    rw [ofNat_toNat (by omega)]; omega

theorem add128 {b : UInt8} (h : b.toNat < 128) : (b + 128).toNat = b.toNat + 128 := by
  rw [UInt8.toNat_add]; simp; omega

/-- all bytes but the last one are 128 or more -/
theorem laidOf_form : ∀ (l : List UInt8), l ≠ [] → (∀ b ∈ l, b.toNat < 128) → ∃ i x, laidOf l = i ++ [x] ∧ (∀ b ∈ i, 128 ≤ b.toNat) ∧ x.toNat < 128
  | [], h, _ => absurd rfl h
  | [b], _, h => ⟨[], b, rfl, by simp, h b (by simp)⟩
  | b :: c :: r, _, h => by
    obtain ⟨i, x, e, h1, h2⟩ := laidOf_form (c :: r) (by simp) (fun y hy => h y (List.mem_cons_of_mem _ hy))
    refine ⟨(b + 128) :: i, x, by rw [laidOf, e]; rfl, ?_, h2⟩
    intro y hy
    rcases List.mem_cons.1 hy with rfl | hy
    · rw [add128 (h b (by simp))]; omega
    · exact h1 y hy

theorem num_form (n : Int) : ∃ i x, num n = i ++ [x] ∧ (∀ b ∈ i, 128 ≤ b.toNat) ∧ x.toNat < 128 :=
  laidOf_form _ (groups_ne n) (groups_lt n)

theorem decStep_add (k : Nat) (a : Int × Int) {b : UInt8} (h : b.toNat < 128) : decStep k a (b + 128) = decStep k a b := by
  have h1 : ((b + 128).toNat : Int) % 128 = (b.toNat : Int) % 128 := by rw [add128 h]; omega
  have h2 : ((b + 128).toNat : Int) % 2 = (b.toNat : Int) % 2 := by rw [add128 h]; omega
  simp only [decStep, h1, h2]

theorem decFrom_laid : ∀ (l : List UInt8) (k : Nat) (a : Int × Int), (∀ b ∈ l, b.toNat < 128) → decFrom k a (laidOf l) = decFrom k a l
  | [], _, _, _ => rfl
  | [b], _, _, _ => rfl
  | b :: c :: r, k, a, h => by
    rw [laidOf, decFrom, decStep_add _ _ (h b (by simp)), decFrom_laid (c :: r) (k + 1) _ (fun y hy => h y (List.mem_cons_of_mem _ hy))]
    rfl

theorem w64_id {n : Int} (h0 : -9223372036854775808 ≤ n) (h1 : n ≤ 9223372036854775807) : w64 n = n := by unfold w64; omega

theorem decFrom_rest (n : Nat) : ∀ (r k : Nat) (s acc : Int), r ≤ n → 1 ≤ k → 0 ≤ acc → acc + (r : Int) * 2 ^ (7 * k - 1) ≤ 9223372036854775807 →
    decFrom k (s, acc) ((restGroups r).map UInt8.ofNat) = (s, acc + (r : Int) * 2 ^ (7 * k - 1)) := by
  induction n with
  | zero =>
    intro r k s acc h hk ha hm
    obtain rfl : r = 0 := by omega
    simp [restGroups_zero, decFrom]
  | succ n ih =>
    intro r k s acc h hk ha hm
    by_cases h0 : 0 < r
    · rw [restGroups_pos h0, List.map_cons, decFrom]
      have hp : (0 : Int) < 2 ^ (7 * k - 1) := Int.pow_pos (by decide)
      have hpow : (2 : Int) ^ (7 * (k + 1) - 1) = 128 * 2 ^ (7 * k - 1) := by
        rw [show 7 * (k + 1) - 1 = 7 + (7 * k - 1) from by omega, Int.pow_add]; rfl
      have hsplit : (r : Int) * 2 ^ (7 * k - 1) = ((r % 128 : Nat) : Int) * 2 ^ (7 * k - 1) + ((r / 128 : Nat) : Int) * 2 ^ (7 * (k + 1) - 1) := by
        rw [hpow, ← Int.mul_assoc, ← Int.add_mul]; congr 1; omega
      have hA : 0 ≤ ((r % 128 : Nat) : Int) * 2 ^ (7 * k - 1) := Int.mul_nonneg (by omega) (Int.le_of_lt hp)
      have hB : 0 ≤ ((r / 128 : Nat) : Int) * 2 ^ (7 * (k + 1) - 1) := Int.mul_nonneg (by omega) (by rw [hpow]; omega)
      have hst : decStep k (s, acc) (UInt8.ofNat (r % 128)) = (s, acc + ((r % 128 : Nat) : Int) * 2 ^ (7 * k - 1)) := by
        unfold decStep
        rw [if_neg (by omega), ofNat_toNat (by omega), show (((r % 128 : Nat) : Int)) % 128 = ((r % 128 : Nat) : Int) from by omega]
        simp only
        rw [w64_id (n := ((r % 128 : Nat) : Int) * 2 ^ (7 * k - 1)) (by omega) (by omega), w64_id (by omega) (by omega)]
      rw [hst, ih (r / 128) (k + 1) s _ (by omega) (by omega) (by omega) (by omega)]
      congr 1; omega
    · obtain rfl : r = 0 := by omega
      simp [restGroups_zero, decFrom]

/-- what is written is read -/
theorem dec_num (n : Int) (h : inRange n) : valOf (dec (num n)) = n := by
  unfold dec num
  rw [decFrom_laid _ _ _ (groups_lt n)]
  have hs := sOf_le n
  have hm : (mOf n : Int) = if n < 0 then -1 - n else n := by unfold mOf; split <;> omega
  have hml : mOf n ≤ 9223372036854775807 := by unfold inRange at h; unfold mOf; split <;> omega
  have hb : (UInt8.ofNat (mOf n % 64 * 2 + sOf n)).toNat = mOf n % 64 * 2 + sOf n := ofNat_toNat (by omega)
  rw [groups_split, List.singleton_append, decFrom]
  have hst : decStep 0 (0, 0) (UInt8.ofNat (mOf n % 64 * 2 + sOf n)) = ((sOf n : Int), ((mOf n % 64 : Nat) : Int)) := by
    unfold decStep
    rw [if_pos rfl, hb]
    congr 1 <;> omega
  rw [hst, decFrom_rest _ (mOf n / 64) (0 + 1) _ _ (Nat.le_refl _) (by omega) (by omega) (by
    show _ + _ * (2 : Int) ^ 6 ≤ _
    omega)]
  have e6 : ((mOf n % 64 : Nat) : Int) + ((mOf n / 64 : Nat) : Int) * 2 ^ (7 * (0 + 1) - 1) = (mOf n : Int) := by
    show _ + _ * (2 : Int) ^ 6 = _
    omega
  rw [e6]
  unfold valOf sOf
  by_cases hn : n < 0
  · simp only [hn, if_true] at hm ⊢; simp; omega
  · simp only [hn, if_false] at hm ⊢; simp; omega

/-- of a text whose first byte below 128 stands at place k no other number's bytes are a beginning -/
theorem num_at {l : List UInt8} {k : Nat} {b : UInt8} (hk : l[k]? = some b) (hb : b.toNat < 128) (hc : ∀ x ∈ l.take k, 128 ≤ x.toNat) {v : Int} (h : num v <+: l) :
    num v = l.take (k + 1) := by
  obtain ⟨i, x, e, h1, h2⟩ := num_form v
  obtain ⟨t, ht⟩ := h
  have hlt : k < l.length := (List.getElem?_eq_some_iff.1 hk).1
  have hi : i.length = k := by
    rcases Nat.lt_trichotomy i.length k with hlt' | heq | hgt
    · exfalso
      have : x ∈ l.take k := by
        rw [← ht, e, List.append_assoc, List.take_append]
        refine List.mem_append_right _ ?_
        rw [List.singleton_append, show k - i.length = (k - i.length - 1) + 1 from by omega, List.take_succ_cons]
        exact List.mem_cons_self
      have := hc x this; omega
    · exact heq
    · exfalso
      have : l[k]? = i[k]? := by
        rw [← ht, e, List.append_assoc, List.getElem?_append_left hgt]
      rw [hk, List.getElem?_eq_getElem hgt] at this
      have hmem := h1 i[k] (List.getElem_mem hgt)
      simp only [Option.some.injEq] at this
      rw [← this] at hmem; omega
  have hlen : (num v).length = k + 1 := by rw [e]; simp [hi]
  rw [← ht, ← hlen, List.take_left]

theorem num_unique {l : List UInt8} {k : Nat} {b : UInt8} (hk : l[k]? = some b) (hb : b.toNat < 128) (hc : ∀ x ∈ l.take k, 128 ≤ x.toNat) {v : Int} (hv : inRange v) (h : num v <+: l) :
    v = valOf (dec (l.take (k + 1))) ∧ (num v).length = k + 1 := by
  have e := num_at hk hb hc h
  refine ⟨by rw [← e, dec_num v hv], ?_⟩
  rw [e]; simp
  have := (List.getElem?_eq_some_iff.1 hk).1
  omega

theorem num_len (v : Int) (hv : inRange v) : (num v).length ≤ 10 := by rw [num_length]; exact groups_length v hv.1 hv.2

/-- no number stands where the first ten bytes, or all that there are, are 128 or more -/
theorem num_none {l : List UInt8} {k : Nat} (hc : ∀ x ∈ l.take k, 128 ≤ x.toNat) (hk : 10 ≤ k ∨ l.length ≤ k) (v : Int) (hv : inRange v) : ¬ num v <+: l := by
  intro h
  obtain ⟨i, x, e, h1, h2⟩ := num_form v
  have hlen : i.length + 1 ≤ 10 := by have := num_len v hv; rw [e] at this; simpa using this
  have hle := h.length_le
  rw [e] at hle
  simp only [List.length_append, List.length_cons, List.length_nil] at hle
  have hm : num v <+: l.take k := by
    rw [List.prefix_take_iff]
    refine ⟨h, ?_⟩
    rw [e]; simp; omega
  have : x ∈ l.take k := hm.subset (by rw [e]; simp)
  have := hc x this; omega

theorem num_inj {l : List UInt8} {v v' : Int} (hv : inRange v) (hv' : inRange v') (h : num v <+: l) (h' : num v' <+: l) : v = v' := by
  obtain ⟨i, x, e, h1, h2⟩ := num_form v
  obtain ⟨t, ht⟩ := id h
  have hl : l = i ++ [x] ++ t := by rw [← ht, e]
  have hk : l[i.length]? = some x := by
    rw [hl, List.append_assoc, List.getElem?_append_right (Nat.le_refl _), Nat.sub_self]; rfl
  have hc : ∀ y ∈ l.take i.length, 128 ≤ y.toNat := by
    rw [hl, List.append_assoc, List.take_left]; exact h1
  rw [(num_unique hk h2 hc hv h).1, (num_unique hk h2 hc hv' h').1]

end Wire

/- groups(n): an iterator over the groups of a number. -/
set_option linter.unusedSimpArgs false
set_option linter.unusedVariables false
namespace Go.Proofs.YtmijlcilnaeppaaGreatDoor
open Go Go.RowKit Go.Shelf
attribute [local go_sem] Oper.semAt_some

set_option maxHeartbeats 400000 in
/-- groups(n): n is boxed; the function value captures the box. -/
theorem groups_in (F : Fence) (n : Nat) (h : F.fn 80) (hro : F.round = none) (x : Int) (w : World) :
    CallsIn F n Tryz.prog 80 #[.int .i64 x] w fun e w' => e = .returned (.func (.func 91) #[] #[.pointer (some ⟨w.heap.size, 0, none⟩)]) ∧ w' = w.alloc (.cells #[.int .i64 x] 3) := by
  refine callsIn_of_wp Tryz.func80 rfl h ?_ hro
  simp only [Tryz.ntmps80, List.size_toArray, List.length_cons, List.length_nil, Nat.reduceAdd, Nat.reduceSub, Array.replicate_succ, Array.replicate_zero, List.push_toArray, List.append_toArray, List.nil_append, List.cons_append]
  gi_wp2
  go_ret
  exact ⟨rfl, rfl⟩

set_option maxRecDepth 100000 in
set_option maxHeartbeats 1000000 in
theorem groups1_pos (F : Fence) (n : Nat) (h6 : F.fn 91) (hro : F.round = none) (hn : 1 ≤ n) (l Bn n₀ : Nat) (x : Int) (hx0 : 0 ≤ x) (hx1 : x ≤ 9223372036854775807) (J Jx : List UInt8 → World → Prop)
    (hY : ∀ pre b W, J pre W → pre.length < (Wire.groups x).length → YieldAt F (n - 1) Tryz.prog l #[.int .u8 (b.toNat : Int)] W fun e W' =>
      (e = .returned (.bool true) ∧ J (pre ++ [b]) W' ∧ Below n₀ W W') ∨ (e = .returned (.bool false) ∧ Jx (pre ++ [b]) W'))
    (W : World) (hBn : W.cell? ⟨Bn, 0, none⟩ = some (.int .i64 x)) (h0 : J [] W) :
    CallsIn F n Tryz.prog 91 #[.func (.yield l) #[] #[], .pointer (some ⟨Bn, 0, none⟩)] W fun e W' => (∃ v, e = .returned v) ∧
      ((∃ ys, ys = Wire.groups x ∧ J ys W') ∨ (∃ pre, pre <+: Wire.groups x ∧ Jx pre W')) := by
  refine callsIn_of_wp Tryz.func91 rfl h6 ?_ hro
  simp only [Tryz.ntmps91, List.size_toArray, List.length_cons, List.length_nil, Nat.reduceAdd, Nat.reduceSub, Array.replicate_succ, Array.replicate_zero, List.push_toArray, List.append_toArray, List.nil_append, List.cons_append]
  have hY0 := hY [] (UInt8.ofNat (Wire.mOf x % 64 * 2 + Wire.sOf x)) W h0 (by simp [Wire.groups_split])
  obtain ⟨fn, tmps, assign, body, hy, hR⟩ := hY0
  have hm : (Wire.mOf x : Int) = x := by unfold Wire.mOf; split <;> omega
  have hs : Wire.sOf x = 0 := by unfold Wire.sOf; split <;> omega
  have hb : (((UInt8.ofNat (Wire.mOf x % 64 * 2 + Wire.sOf x)).toNat : Nat) : Int) = x % 64 * 2 := by
    rw [Wire.ofNat_toNat (by omega)]; omega
  rw [hb] at hy
  have hM := Lib.hid hm; clear hm
  clear hb hs
  gi_wp2
  refine hR.mono ?_
  rintro e W3 (⟨rfl, hJ3, hk3⟩ | ⟨rfl, hJx3⟩)
  · clear hy hR
    gi_wp2
    gi_loopw [3] (fun p wr => ∃ (pre : List UInt8) (r : Nat), p = .int .u64 (r : Int) ∧ r ≤ 9223372036854775807 ∧ Wire.groups x = pre ++ (Wire.restGroups r).map UInt8.ofNat ∧ J pre wr)
      (fun p _ => (intOf p).toNat)
    case atStart =>
      refine ⟨_, Wire.mOf x / 64, ?_, by have := hM.out; omega, Wire.groups_split x, hJ3⟩
      have := hM.out
      congr 1; omega
    case round =>
      obtain ⟨pre, r, rfl, hr, hx, hJs⟩ := hrel
      have hX := Lib.hid hx; clear hx
      by_cases h0r : 0 < r
      · obtain ⟨fn, tmps, assign, body, hy, hR⟩ := hY pre (UInt8.ofNat (r % 128)) wr hJs (by rw [hX.out, Wire.restGroups_pos h0r]; simp)
        rw [Wire.ofNat_toNat (by omega), show (((r % 128 : Nat)) : Int) = (r : Int) % 128 from by omega] at hy
        gi_wp2
        refine hR.mono ?_
        rintro e W4 (⟨rfl, hJ4, hk4⟩ | ⟨rfl, hJx4⟩)
        · clear hy hR
          gi_wp2
          go_roundw
          case rel => exact ⟨_, r / 128, rfl, by omega, by rw [hX.out, Wire.restGroups_pos h0r]; simp, hJ4⟩
          case measure => simp [intOf]; omega
        · clear hy hR
          gi_wp2
          refine bodyPost_ret (results_none rfl _ _ _) rfl ?_
          exact ⟨⟨_, rfl⟩, .inr ⟨_, ⟨(Wire.restGroups (r / 128)).map UInt8.ofNat, by rw [hX.out, Wire.restGroups_pos h0r]; simp⟩, hJx4⟩⟩
      · obtain rfl : r = 0 := by omega
        gi_wp2
        go_end0
        exact ⟨⟨_, rfl⟩, .inl ⟨_, by rw [hX.out, Wire.restGroups_zero]; simp, hJs⟩⟩
  · clear hy hR
    gi_wp2
    refine bodyPost_ret (results_none rfl _ _ _) rfl ?_
    exact ⟨⟨_, rfl⟩, .inr ⟨_, ⟨_, (Wire.groups_split x).symm⟩, hJx3⟩⟩

set_option maxRecDepth 100000 in
set_option maxHeartbeats 1000000 in
theorem groups1_neg (F : Fence) (n : Nat) (h6 : F.fn 91) (hro : F.round = none) (hn : 1 ≤ n) (l Bn n₀ : Nat) (x : Int) (hx0 : x < 0) (hx1 : -9223372036854775808 ≤ x) (J Jx : List UInt8 → World → Prop)
    (hY : ∀ pre b W, J pre W → pre.length < (Wire.groups x).length → YieldAt F (n - 1) Tryz.prog l #[.int .u8 (b.toNat : Int)] W fun e W' =>
      (e = .returned (.bool true) ∧ J (pre ++ [b]) W' ∧ Below n₀ W W') ∨ (e = .returned (.bool false) ∧ Jx (pre ++ [b]) W'))
    (W : World) (hBn : W.cell? ⟨Bn, 0, none⟩ = some (.int .i64 x)) (h0 : J [] W) :
    CallsIn F n Tryz.prog 91 #[.func (.yield l) #[] #[], .pointer (some ⟨Bn, 0, none⟩)] W fun e W' => (∃ v, e = .returned v) ∧
      ((∃ ys, ys = Wire.groups x ∧ J ys W') ∨ (∃ pre, pre <+: Wire.groups x ∧ Jx pre W')) := by
  refine callsIn_of_wp Tryz.func91 rfl h6 ?_ hro
  simp only [Tryz.ntmps91, List.size_toArray, List.length_cons, List.length_nil, Nat.reduceAdd, Nat.reduceSub, Array.replicate_succ, Array.replicate_zero, List.push_toArray, List.append_toArray, List.nil_append, List.cons_append]
  have hY0 := hY [] (UInt8.ofNat (Wire.mOf x % 64 * 2 + Wire.sOf x)) W h0 (by simp [Wire.groups_split])
  obtain ⟨fn, tmps, assign, body, hy, hR⟩ := hY0
  have hm : (Wire.mOf x : Int) = -1 - x := by unfold Wire.mOf; split <;> omega
  have hs : Wire.sOf x = 1 := by unfold Wire.sOf; split <;> omega
  have hb : (((UInt8.ofNat (Wire.mOf x % 64 * 2 + Wire.sOf x)).toNat : Nat) : Int) = (-1 - x) % 64 * 2 + 1 := by
    rw [Wire.ofNat_toNat (by omega)]; omega
  rw [hb] at hy
  have hM := Lib.hid hm; clear hm
  clear hb hs
  gi_wp2
  refine hR.mono ?_
  rintro e W3 (⟨rfl, hJ3, hk3⟩ | ⟨rfl, hJx3⟩)
  · clear hy hR
    gi_wp2
    gi_loopw [3] (fun p wr => ∃ (pre : List UInt8) (r : Nat), p = .int .u64 (r : Int) ∧ r ≤ 9223372036854775807 ∧ Wire.groups x = pre ++ (Wire.restGroups r).map UInt8.ofNat ∧ J pre wr)
      (fun p _ => (intOf p).toNat)
    case atStart =>
      refine ⟨_, Wire.mOf x / 64, ?_, by have := hM.out; omega, Wire.groups_split x, hJ3⟩
      have := hM.out
      congr 1; omega
    case round =>
      obtain ⟨pre, r, rfl, hr, hx, hJs⟩ := hrel
      have hX := Lib.hid hx; clear hx
      by_cases h0r : 0 < r
      · obtain ⟨fn, tmps, assign, body, hy, hR⟩ := hY pre (UInt8.ofNat (r % 128)) wr hJs (by rw [hX.out, Wire.restGroups_pos h0r]; simp)
        rw [Wire.ofNat_toNat (by omega), show (((r % 128 : Nat)) : Int) = (r : Int) % 128 from by omega] at hy
        gi_wp2
        refine hR.mono ?_
        rintro e W4 (⟨rfl, hJ4, hk4⟩ | ⟨rfl, hJx4⟩)
        · clear hy hR
          gi_wp2
          go_roundw
          case rel => exact ⟨_, r / 128, rfl, by omega, by rw [hX.out, Wire.restGroups_pos h0r]; simp, hJ4⟩
          case measure => simp [intOf]; omega
        · clear hy hR
          gi_wp2
          refine bodyPost_ret (results_none rfl _ _ _) rfl ?_
          exact ⟨⟨_, rfl⟩, .inr ⟨_, ⟨(Wire.restGroups (r / 128)).map UInt8.ofNat, by rw [hX.out, Wire.restGroups_pos h0r]; simp⟩, hJx4⟩⟩
      · obtain rfl : r = 0 := by omega
        gi_wp2
        go_end0
        exact ⟨⟨_, rfl⟩, .inl ⟨_, by rw [hX.out, Wire.restGroups_zero]; simp, hJs⟩⟩
  · clear hy hR
    gi_wp2
    refine bodyPost_ret (results_none rfl _ _ _) rfl ?_
    exact ⟨⟨_, rfl⟩, .inr ⟨_, ⟨_, (Wire.groups_split x).symm⟩, hJx3⟩⟩

theorem groups1_stops (F : Fence) (n : Nat) (h6 : F.fn 91) (hro : F.round = none) (hn : 1 ≤ n) (Bn n₀ : Nat) (x : Int) (hx0 : -9223372036854775808 ≤ x) (hx1 : x ≤ 9223372036854775807) (w : World) (hBn : Bn < w.heap.size)
    (hc : w.cell? ⟨Bn, 0, none⟩ = some (.int .i64 x)) :
    SeqStopsK F n Tryz.prog 91 #[.pointer (some ⟨Bn, 0, none⟩)] (fun b : UInt8 => #[Value.int .u8 (b.toNat : Int)]) (Below n₀) (fun ys => ys = Wire.groups x) (fun pre => pre <+: Wire.groups x) (Wire.groups x).length w := fun l J Jx W hW _ _ hY h0 => by
  by_cases h : 0 ≤ x
  · exact groups1_pos F n h6 hro hn l Bn n₀ x h hx1 J Jx hY W ((hW.cell (p := ⟨Bn, 0, none⟩) hBn).trans hc) h0
  · exact groups1_neg F n h6 hro hn l Bn n₀ x (by omega) hx0 J Jx hY W ((hW.cell (p := ⟨Bn, 0, none⟩) hBn).trans hc) h0
end Go.Proofs.YtmijlcilnaeppaaGreatDoor

/- Num(n): the bytes of n. -/
set_option linter.unusedSimpArgs false
set_option linter.unusedVariables false
namespace Go.Proofs.YtmijlcilnaeppaaGreatDoor
open Go Go.RowKit Go.Shelf
attribute [local go_sem] Oper.semAt_some

def u8v (b : UInt8) : Value := .int .u8 (b.toNat : Int)
theorem u8v_add (c : UInt8) : Value.int .u8 (((c.toNat : Int) + 128) % 256) = u8v (c + 128) := by
  unfold u8v; rw [UInt8.toNat_add]; congr 1

theorem laid_step (p : List UInt8) (c b : UInt8) : (Wire.laidOf (p ++ [c] ++ [b])).map u8v = ((Wire.laidOf (p ++ [c])).map u8v).set p.length (.int .u8 (((c.toNat : Int) + 128) % 256)) ++ [u8v b] := by
  rw [Wire.laidOf_snoc2, List.map_append, List.map_set, u8v_add]; rfl

theorem infoU8 : (Tryz.prog.info? 5).map (fun i => (i.zero, i.size, i.bytes)) = some (some (.int .u8 0), 1, 1) := by kernel_rfl

set_option maxRecDepth 100000 in
set_option maxHeartbeats 2000000 in
theorem num_in (F : Fence) (n : Nat) (h8 : F.fn 59) (h14 : F.fn 80) (h19 : F.fn 91) (hro : F.round = none) (hn : 3 ≤ n) (x : Int) (hx0 : -9223372036854775808 ≤ x) (hx1 : x ≤ 9223372036854775807) (w : World) :
    CallsIn F n Tryz.prog 59 #[.int .i64 x] w fun e W' => e = .returned (.string ⟨(Wire.num x).toArray⟩) ∧ Below w.heap.size w W' := by
  have h1 : 1 ≤ n := by omega
  obtain ⟨i0, hi, hz0, hz1, hz2⟩ := info_parts infoU8
  refine callsIn_of_wp_marks Tryz.func59 rfl h8 ?_ hro
  simp only [Tryz.ntmps59, List.size_toArray, List.length_cons, List.length_nil, Nat.reduceAdd, Nat.reduceSub, Array.replicate_succ, Array.replicate_zero, List.push_toArray, List.append_toArray, List.nil_append, List.cons_append]
  gi_wp2_with (gi_at_call 80; refine (groups_in F (n - 1) h14 hro _ _).mono ?_; rintro e w' ⟨rfl, rfl⟩)
  have bO := Boxed.new w 54 (.slice none 0 0)
  have bN := Boxed.new (w.alloc (.cells #[.slice none 0 0] 54)) 3 (.int .i64 x)
  rw [World.size_alloc] at bN
  have hB0 : Below w.heap.size w ((w.alloc (.cells #[.slice none 0 0] 54)).alloc (.cells #[.int .i64 x] 3)) := ((Below.refl _ w).alloc (Nat.le_refl _) _).alloc (by simp) _
  refine wpIn_rangeFunc_ownG hro h1 (gf := 91) (lb := #[.pointer (some ⟨w.heap.size + 1, 0, none⟩)]) rfl h19 (enters_of Tryz.func91 (by kernel_rfl) rfl)
    (groups1_stops F (n - 1) h19 hro (by omega) (w.heap.size + 1) w.heap.size x hx0 hx1 _ (by simp) bN.cell) belowK_t (belowK_b (by simp; omega)) (Below.refl _ _) (fun _ => rfl)
    (fun pre W => (∃ v, Boxed W w.heap.size 54 v ∧ W.ownsRow w.heap.size 5 1 v pre.length ((Wire.laidOf pre).map u8v) ∧ (v = .slice none 0 0 ↔ pre = [])) ∧ Below w.heap.size w W)
    (fun _ _ _ => False)
    (OwnFrom.and (Own.from (holdsRow_own w.heap.size w.heap.size 54 5 1 (fun pre => pre.length) (fun pre => (Wire.laidOf pre).map u8v) (fun pre v => v = .slice none 0 0 ↔ pre = [])) _) (ownFrom_below (Nat.le_refl _) (by simp; omega)))
    (fun _ _ _ _ _ hs _ _ => hs)
    ⟨⟨_, bO.alloc _, World.ownsRow_nil _ _ _ _, by simp⟩, hB0⟩
    (fun b => { tmps := #[.int .i64 x, undef, .string ⟨#[]⟩, .pointer (some ⟨w.heap.size, 0, none⟩), u8v b, .int .i64 x, .func (.func 91) #[] #[.pointer (some ⟨w.heap.size + 1, 0, none⟩)], u8v b, undef, undef, undef, undef, undef, undef, undef, undef, undef, undef, undef, undef, undef, undef, undef, undef, undef], defers := [] }) ?assign ?body ?done ?stop
  case assign =>
    intro l b W K hK
    gi_wp2
    exact hK
  case body =>
    rintro l pre b W ⟨⟨v, hv, hrow, hnil⟩, hB⟩ hlt
    have hlen := Wire.groups_length x hx0 hx1
    have hc := hv.cell
    rcases List.eq_nil_or_concat pre with rfl | ⟨p, c, hp⟩
    · have hv0 : v = .slice none 0 0 := hnil.2 rfl
      subst hv0
      unfold u8v
      gi_wp2_with (gi_at_builtin; refine wpListIn_append_own _ rfl _ _ 54 rfl w.heap.size 5 i0 (.int .u8 0) 1 1 Tryz.underlying54 hi hz0 hz1 hz2 rfl (by decide) _ _ _ rfl (hrow.alloc _) ⟨W.heap.size, 0, none⟩ 1 1 [u8v b] rfl rfl (cell_one_new _ _ _) (by simp [Value.oneCell', u8v]) (by simp [maxLen]) (by simp) (by have := hB.size; simp; omega) ?_; intro v' w1 hown' hgrow _; obtain ⟨g', cap', rfl⟩ := ownsRow_succ hown'; obtain ⟨hv1, hv2, hr2, hk2, hb2⟩ := hv.appended (by decide) hrow hB.size (Nat.le_refl _) hown' hgrow; have hc1 := hv1.cell; have hf1 := hv1.frozen)
      exact ⟨hk2.from _, hb2, ⟨_, hv2, by simpa [Wire.laidOf, u8v] using hr2, by simp⟩, hB.trans hb2⟩
    · rw [List.concat_eq_append] at hp
      subst hp
      have hpl : (p ++ [c]).length = p.length + 1 := by simp
      rw [hpl] at hrow
      obtain ⟨g, cap, rfl⟩ := ownsRow_succ hrow
      have hlast : ((Wire.laidOf (p ++ [c])).map u8v)[p.length]? = some (.int .u8 (c.toNat : Int)) := by
        rw [List.getElem?_map, Wire.laidOf_last]; rfl
      have hcell : W.cell? ⟨g, p.length, none⟩ = some (.int .u8 (c.toNat : Int)) := (hrow.cellAt p.length (by omega)).trans hlast
      have hfro : W.frozen? ⟨g, p.length, none⟩ = false := hrow.frozenAt _
      obtain ⟨hst, hsg⟩ := hrow.stored p.length (.int .u8 (((c.toNat : Int) + 128) % 256))
      have hgn : w.heap.size ≤ g := (hrow.lt g rfl).1
      have hne : some w.heap.size ≠ Value.ownBlock (.slice (some ⟨g, 0, none⟩) (p.length + 1) cap) := hv.not_row (by decide) hrow
      have hvs : Boxed (W.setCell ⟨g, p.length, none⟩ (.int .u8 (((c.toNat : Int) + 128) % 256))) w.heap.size 54 (.slice (some ⟨g, 0, none⟩) (p.length + 1) cap) := hv.kept hsg (by simpa [Value.ownBlock] using hne)
      have hcs := hvs.cell
      have hplt : p.length < 10 := by simp at hlt; omega
      have hlr : p.length < (p.length + 1) := by omega
      have hbs : Below w.heap.size W (W.setCell ⟨g, p.length, none⟩ (.int .u8 (((c.toNat : Int) + 128) % 256))) := (Below.refl _ W).setCell (p := ⟨g, p.length, none⟩) hgn _
      have hks : KeepsOthers W (W.setCell ⟨g, p.length, none⟩ (.int .u8 (((c.toNat : Int) + 128) % 256))) := KeepsOthers.setCell _ _ _
      clear hlast hpl
      have hcap : p.length + 1 ≤ cap := by
        rcases hrow.2 with ⟨h', _⟩ | ⟨g', cap', cur, h', _, _, h2, _⟩
        · simp at h'
        · simp at h'; omega
      have hsz : (W.setCell ⟨g, p.length, none⟩ (.int .u8 (((c.toNat : Int) + 128) % 256))).heap.size = W.heap.size := by simp
      have hnews := cell_one_new (W.setCell ⟨g, p.length, none⟩ (.int .u8 (((c.toNat : Int) + 128) % 256))) (u8v b) 5
      rw [hsz] at hnews
      have HN := Lib.hid hnews; clear hnews hsz
      unfold u8v
      gi_wp2_with (gi_at_builtin; refine wpListIn_append_own _ rfl _ _ 54 rfl w.heap.size 5 i0 (.int .u8 0) 1 1 Tryz.underlying54 hi hz0 hz1 hz2 rfl (by decide) _ _ _ rfl (hst.alloc _) ⟨W.heap.size, 0, none⟩ 1 1 [u8v b] rfl rfl HN.out (by simp [Value.oneCell', u8v]) (by simp [maxLen]; omega) (by omega) (by have := hbs.size; have := hB.size; simp; omega) ?_; intro v' w1 hown' hgrow _; obtain ⟨g', cap', rfl⟩ := ownsRow_succ hown'; obtain ⟨hv1, hv2, hr2, hk2, hb2⟩ := hvs.appended (by decide) hst (by have := hbs.size; have := hB.size; omega) (Nat.le_refl _) hown' hgrow; have hc1 := hv1.cell; have hf1 := hv1.frozen)
      refine ⟨(hks.trans hk2).from _, hbs.trans hb2, ⟨_, hv2, ?_, by simp⟩, hB.trans (hbs.trans hb2)⟩
      have e1 : (p ++ [c] ++ [b]).length = p.length + 1 + 1 := by simp
      show World.ownsRow _ _ _ _ _ (p ++ [c] ++ [b]).length ((Wire.laidOf (p ++ [c] ++ [b])).map u8v)
      rw [e1, laid_step]
      exact hr2
  case done =>
    rintro D ys W hD rfl ⟨⟨v, hv, hrow, hnil⟩, hB⟩ hK
    have hc := hv.cell
    have hys : Wire.groups x ≠ [] := Wire.groups_ne x
    obtain ⟨k, hk⟩ : ∃ k, (Wire.groups x).length = k + 1 := ⟨(Wire.groups x).length - 1, by have := List.length_pos_iff.2 hys; omega⟩
    have hrow' := hrow
    rw [hk] at hrow'
    obtain ⟨g, cap, rfl⟩ := ownsRow_succ hrow'
    have hlen : (Wire.num x).length = k + 1 := by rw [Wire.num_length, hk]
    have hconv : (convert 54 9 (.slice (some ⟨g, 0, none⟩) (k + 1) cap)).run Tryz.prog W = .ok (.string ⟨(Wire.num x).toArray⟩) W := by
      have := run_convert_bytes_back (P := Tryz.prog) W 54 9 5 ⟨g, 0, none⟩ cap (Wire.num x) Tryz.underlying54 Tryz.underlying5 Tryz.underlying9 (fun j hj => by
        have hcj := hrow'.cells (g := g) rfl j (u8v (Wire.num x)[j]) (by
          rw [List.getElem?_map]
          have : (Wire.laidOf (Wire.groups x))[j]? = some (Wire.num x)[j] := List.getElem?_eq_getElem hj
          rw [this]; rfl)
        exact hcj)
      rw [hlen] at this
      exact this
    have HK := Lib.hid hk; clear hk
    have HL := Lib.hid hlen; clear hlen
    gi_wp2
    refine ⟨by simp, .inl ⟨_, _, rfl, run_takeDeferred hK, ?_⟩⟩
    exact ⟨_, results_tmp rfl _ _ _, rfl, hB.trans (belowK_b (w := w) (Nat.le_refl _) W D _ _ (by simp at hD; omega) hK rfl rfl)⟩
  case stop =>
    rintro D c pre W _ _ h _
    exact h.elim

/-- Num(n): its bytes; nothing that lay has turned. -/
theorem num_any (x : Int) (hx0 : -9223372036854775808 ≤ x) (hx1 : x ≤ 9223372036854775807) (w : World) :
    Calls Tryz.prog 59 #[.int .i64 x] w fun e W' => e = .returned (.string ⟨(Wire.num x).toArray⟩) ∧ Below w.heap.size w W' :=
  callsIn_wide.1 (num_in Fence.wide 3 trivial trivial trivial rfl (Nat.le_refl _) x hx0 hx1 w)
end Go.Proofs.YtmijlcilnaeppaaGreatDoor

/- Text(s); HasPrefix. -/
set_option linter.unusedSimpArgs false
set_option linter.unusedVariables false
namespace Go.Proofs.YtmijlcilnaeppaaGreatDoor
open Go Go.RowKit Go.Shelf

theorem bytes_append (a : List UInt8) (s : ByteArray) : (({ data := a.toArray } : ByteArray) ++ s) = ⟨(a ++ s.data.toList).toArray⟩ := by
  apply ByteArray.ext
  simp

theorem bytes_prefix (s p : ByteArray) (h : p.size ≤ s.size) : ((s.extract 0 p.size).toList == p.toList) = decide (p.data.toList <+: s.data.toList) := by
  rw [Lib.extract_toList, Lib.toList_data]
  simp only [Nat.sub_zero, List.drop_zero]
  rw [Bool.eq_iff_iff, beq_iff_eq, decide_eq_true_iff, List.prefix_iff_eq_take]
  have : p.size = p.data.toList.length := by simp
  rw [this]
  exact eq_comm

set_option maxHeartbeats 400000 in
theorem prefix_short (s p : ByteArray) (hs : s.size ≤ 9223372036854775807) (hp : p.size ≤ 9223372036854775807) (w : World) (h : s.size < p.size) :
    Calls Tryz.prog 95 #[.string s, .string p] w fun e w' => e = .returned (.bool false) ∧ w = w' := by
  go_enter Tryz.func95, Tryz.ntmps95
  go_wp2
  go_ret
  exact ⟨rfl, rfl⟩

set_option maxHeartbeats 400000 in
theorem prefix_long (s p : ByteArray) (hs : s.size ≤ 9223372036854775807) (hp : p.size ≤ 9223372036854775807) (w : World) (h : p.size ≤ s.size) :
    Calls Tryz.prog 95 #[.string s, .string p] w fun e w' => e = .returned (.bool (decide (p.data.toList <+: s.data.toList))) ∧ w = w' := by
  go_enter Tryz.func95, Tryz.ntmps95
  have hb := bytes_prefix s p h
  have HB := Lib.hid hb; clear hb
  go_wp2
  go_ret
  exact ⟨by rw [← HB.out]; rfl, rfl⟩

set_option maxHeartbeats 400000 in
theorem text_long (s : ByteArray) (hs : s.size ≤ 9223372036854775807) (h : 10000 < s.size) (w : World) :
    Calls Tryz.prog 60 #[.string s] w fun e w' => e = .returned (.tuple #[.string ⟨#[]⟩, .int .i64 10]) ∧ w = w' := by
  go_enter Tryz.func60, Tryz.ntmps60
  go_wp2
  go_ret2
  exact ⟨rfl, rfl⟩

set_option maxHeartbeats 400000 in
theorem text_any (s : ByteArray) (h : s.size ≤ 10000) (w : World) :
    Calls Tryz.prog 60 #[.string s] w fun e w' => e = .returned (.tuple #[.string ⟨(Wire.num s.size ++ s.data.toList).toArray⟩, .int .i64 0]) ∧ Below w.heap.size w w' := by
  have hn : (Wire.num s.size).length ≤ 10 := by rw [Wire.num_length]; exact Wire.groups_length _ (by omega) (by omega)
  go_enter Tryz.func60, Tryz.ntmps60
  go_wp2_with (go_at_call 59; refine (num_any _ (by omega) (by omega) _).mono ?_; rintro e w1 ⟨rfl, hB⟩)
  go_ret2
  exact ⟨by rw [← bytes_append]; rfl, hB⟩

set_option maxHeartbeats 400000 in
theorem hasPrefix_any (s p : ByteArray) (hs : s.size ≤ 9223372036854775807) (hp : p.size ≤ 9223372036854775807) (w : World) :
    Calls Tryz.prog 87 #[.string s, .string p] w fun e w' => e = .returned (.bool (decide (p.data.toList <+: s.data.toList))) ∧ w = w' := by
  by_cases h : p.size ≤ s.size
  · go_enter Tryz.func87, Tryz.ntmps87
    go_wp2_with (go_at_call 95; refine (prefix_long _ _ hs hp _ h).mono ?_; rintro e w1 ⟨rfl, rfl⟩)
    go_ret
    exact ⟨rfl, rfl⟩
  · have hd : decide (p.data.toList <+: s.data.toList) = false := by
      rw [decide_eq_false_iff_not]
      intro hc
      have := hc.length_le
      simp at this; omega
    have HD := Lib.hid hd; clear hd
    go_enter Tryz.func87, Tryz.ntmps87
    go_wp2_with (go_at_call 95; refine (prefix_short _ _ hs hp _ (by omega)).mono ?_; rintro e w1 ⟨rfl, rfl⟩)
    go_ret
    exact ⟨by rw [HD.out]; rfl, rfl⟩
end Go.Proofs.YtmijlcilnaeppaaGreatDoor

/- strings.Builder at this dump: copyCheck, WriteByte, WriteString. -/
set_option linter.unusedSimpArgs false
set_option linter.unusedVariables false
namespace Go.Proofs.YtmijlcilnaeppaaGreatDoor
open Go Go.RowKit Go.Shelf

/-- a builder in block b that holds these bytes -/
abbrev Bld (b : Nat) (bs : List UInt8) (w : World) : Prop := Lib.IsBuilderF 56 5 b b (Lib.byteCells bs) w

theorem byteInfo : (Tryz.prog.info? 5).map (fun i => (i.zero, i.size, i.bytes)) = some (some (.int .u8 0), 1, 1) := by kernel_rfl
theorem bldInfo : (Tryz.prog.info? 56).map (·.size) = some 2 := by kernel_rfl
theorem bldLies : liesAt Tryz.prog Tryz.prog.depth 56 (2 / Tryz.prog.cellsOf 56) 0 56 1 = true := by kernel_rfl

set_option maxHeartbeats 1000000 in
set_option maxRecDepth 100000 in
theorem copyCheck_fresh (b : Nat) (w : World) (h0 : w.cell? ⟨b, 0, none⟩ = some (.pointer none)) (hsh : w.shape? b = some (56, 2)) (hfz : w.frozen? ⟨b, 0, none⟩ = false) :
    Calls Tryz.prog 79 #[.pointer (some ⟨b, 0, none⟩)] w fun e w' => e = .returned (.tuple #[]) ∧ w' = w.setCell ⟨b, 0, none⟩ (.pointer (some ⟨b, 0, none⟩)) := by
  obtain ⟨j, hj, hjs⟩ := Option.map_eq_some_iff.1 bldInfo
  go_enter Tryz.func79, Tryz.ntmps79
  go_wp2
  rw [Lib.run_to_unsafe w ⟨b, 0, none⟩ Tryz.underlying53 Tryz.underlying126 hj (by rw [hjs]; decide) hsh (Nat.zero_lt_succ 1)]
  simp only [Result.andThen]
  rw [Oper.upon_value]
  go_wp2
  rw [run_callFunc_extern Tryz.func90 (by kernel_rfl) (by kernel_rfl) (by kernel_rfl) (e := Extern.AbiNoEscape.same) (by kernel_rfl)]
  rw [Lib.run_noEscape]
  simp only [Result.andThen]
  rw [Oper.upon_value]
  go_wp2
  rw [Lib.run_from_unsafe w ⟨b, 0, none⟩ Tryz.underlying126 Tryz.underlying53 hj hsh bldLies]
  simp only [Result.andThen]
  rw [Oper.upon_value]
  go_wp2
  go_end0
  exact ⟨rfl, rfl⟩

set_option maxHeartbeats 1000000 in
set_option maxRecDepth 100000 in
theorem copyCheck_used (b : Nat) (w : World) (h0 : w.cell? ⟨b, 0, none⟩ = some (.pointer (some ⟨b, 0, none⟩))) :
    Calls Tryz.prog 79 #[.pointer (some ⟨b, 0, none⟩)] w fun e w' => e = .returned (.tuple #[]) ∧ w' = w := by
  obtain ⟨j, hj, hjs⟩ := Option.map_eq_some_iff.1 bldInfo
  go_enter Tryz.func79, Tryz.ntmps79
  go_wp2
  rw [Lib.run_neq_ptr_same w _ Tryz.underlying53 hj]
  go_wp2
  go_end0
  exact ⟨rfl, rfl⟩

theorem copyCheck_k (B b : Nat) (bs : List Value) (w : World) (h : Lib.IsBuilderF 56 5 B b bs w) :
    Calls Tryz.prog 79 #[.pointer (some ⟨b, 0, none⟩)] w fun e w' => e = .returned (.tuple #[]) ∧ (Lib.BuilderAtF 56 5 B b (.pointer (some ⟨b, 0, none⟩)) bs w' ∧ Below B w w' ∧ Lib.OthersKept 5 (some b) w w') := by
  rcases h with h | h
  · refine (copyCheck_fresh b w h.cell0 h.shape h.frozen0).mono ?_
    rintro e w' ⟨rfl, rfl⟩
    exact ⟨rfl, h.used _, (Below.refl B w).setCell (p := ⟨b, 0, none⟩) h.1 _, (Lib.OthersKept.refl _ _ w).setCell ⟨b, 0, none⟩ rfl _⟩
  · refine (copyCheck_used b w h.cell0).mono ?_
    rintro e w' ⟨rfl, rfl⟩
    exact ⟨rfl, h, Below.refl B _, Lib.OthersKept.refl _ _ _⟩

set_option maxHeartbeats 2000000 in
set_option maxRecDepth 100000 in
theorem writeByte_k (B b : Nat) (bs : List Value) (c : Int) (w : World) (h : Lib.IsBuilderF 56 5 B b bs w) (hlen : bs.length + 1 ≤ 140737488355328) (hBw : B ≤ w.heap.size) :
    Calls Tryz.prog 82 #[.pointer (some ⟨b, 0, none⟩), .int .u8 c] w fun e w' => e = .returned .nilIface ∧ (Lib.BuilderAtF 56 5 B b (.pointer (some ⟨b, 0, none⟩)) (bs ++ [.int .u8 c]) w' ∧ Below B w w' ∧ Lib.OthersKept 5 (some b) w w') := by
  obtain ⟨i0, hi, hz0, hz1, hz2⟩ := info_parts byteInfo
  go_enter Tryz.func82, Tryz.ntmps82
  go_wp2_with (go_at_call 79; refine (copyCheck_k B b bs _ h).mono ?_)
  rintro e w1 ⟨rfl, h1, hb1, hk1⟩
  obtain ⟨hB, v, hbk, hown, hne⟩ := h1
  have c0 : w1.cell? ⟨b, 0, none⟩ = some (.pointer (some ⟨b, 0, none⟩)) := by rw [Lib.cell_of_heap hbk]; rfl
  have c1 : w1.cell? ⟨b, 1, none⟩ = some v := by rw [Lib.cell_of_heap hbk]; rfl
  go_wp2_with (at_builtin; refine wpList_append_ownF _ rfl _ _ 54 rfl B 5 i0 (.int .u8 0) 1 1 Tryz.underlying54 hi hz0 hz1 hz2 rfl (by decide) _ _ _ rfl (hown.alloc _) ⟨w1.heap.size, 0, none⟩ 1 1 [.int .u8 c] rfl rfl ?c1 ?c2 ?c3 ?c4 ?c5 ?_)
  case c1 =>
    intro j u hj
    match j, hj with
    | 0, hj => simp at hj; subst hj; simp [Addr.add]
  case c2 => intro u hu; simp at hu; subst hu; rfl
  case c3 => unfold maxLen; omega
  case c4 => omega
  case c5 => have := hb1.size; simp; omega
  intro v' w2 hown' hgrow _
  have hlt : b < w1.heap.size := by
    rcases Nat.lt_or_ge b w1.heap.size with h' | h'
    · exact h'
    · simp [Array.getElem?_eq_none h'] at hbk
  have hb2 : w2.heap[b]? = some (.cells #[.pointer (some ⟨b, 0, none⟩), v] 56 (0, 0)) := by
    rw [hgrow.block b (by simp; omega) (fun e => hne e.symm), Lib.alloc_old w1 _ b hlt]
    exact hbk
  have d0 : w2.cell? ⟨b, 0, none⟩ = some (.pointer (some ⟨b, 0, none⟩)) := by rw [Lib.cell_of_heap hb2]; rfl
  have d1 : w2.cell? ⟨b, 1, none⟩ = some v := by rw [Lib.cell_of_heap hb2]; rfl
  have f1 : w2.frozen? ⟨b, 1, none⟩ = false := Lib.frozen_of_heap hb2 1
  obtain ⟨g, cap, rfl⟩ : ∃ g cap, v' = .slice (some ⟨g, 0, none⟩) (bs.length + 1) cap := by
    rcases hown'.2 with ⟨_, h0⟩ | ⟨g, cap, cur, fz, hv, _⟩
    · omega
    · exact ⟨g, cap, hv⟩
  go_wp2
  go_ret
  refine ⟨rfl, ?_, ?_, ((hk1.alloc _).grown hgrow (Lib.ownsRowF_kind (hown.alloc _))).setCell ⟨b, 1, none⟩ rfl _⟩
  · exact Lib.BuilderAtF.put (T := 56) (e := 5) hB hb2 (bs' := bs ++ [.int .u8 c]) (by simpa using hown') (by decide)
  · exact ((hb1.alloc (by have := hb1.size; omega) _).grown hgrow (by have := hb1.size; simp; omega) (fun k hk => (hown.lt k hk).1)).setCell (p := ⟨b, 1, none⟩) hB _

set_option maxHeartbeats 2000000 in
set_option maxRecDepth 100000 in
theorem writeString_k (B b : Nat) (bs : List Value) (s : ByteArray) (w : World) (h : Lib.IsBuilderF 56 5 B b bs w) (hlen : bs.length + s.size ≤ 140737488355328) (hBw : B ≤ w.heap.size) :
    Calls Tryz.prog 58 #[.pointer (some ⟨b, 0, none⟩), .string s] w fun e w' => e = .returned (.tuple #[.int .i64 s.size, .nilIface]) ∧ (Lib.BuilderAtF 56 5 B b (.pointer (some ⟨b, 0, none⟩)) (bs ++ Lib.strCells s) w' ∧ Below B w w' ∧ Lib.OthersKept 5 (some b) w w') := by
  obtain ⟨i0, hi, hz0, hz1, hz2⟩ := info_parts byteInfo
  go_enter Tryz.func58, Tryz.ntmps58
  go_wp2_with (go_at_call 79; refine (copyCheck_k B b bs _ h).mono ?_)
  rintro e w1 ⟨rfl, h1, hb1, hk1⟩
  obtain ⟨hB, v, hbk, hown, hne⟩ := h1
  have c0 : w1.cell? ⟨b, 0, none⟩ = some (.pointer (some ⟨b, 0, none⟩)) := by rw [Lib.cell_of_heap hbk]; rfl
  have c1 : w1.cell? ⟨b, 1, none⟩ = some v := by rw [Lib.cell_of_heap hbk]; rfl
  go_wp2_with (at_builtin; refine Lib.wpList_append_own_stringF _ rfl _ _ 54 9 rfl B 5 i0 Tryz.underlying54 Tryz.underlying9 hi hz0 hz1 hz2 _ _ _ rfl hown s rfl ?c3 ?c4 ?c5 ?_)
  case c3 => unfold maxLen; omega
  case c4 => omega
  case c5 => have := hb1.size; omega
  intro v' w2 hown' hgrow _
  have hlt : b < w1.heap.size := by
    rcases Nat.lt_or_ge b w1.heap.size with h' | h'
    · exact h'
    · simp [Array.getElem?_eq_none h'] at hbk
  have hb2 : w2.heap[b]? = some (.cells #[.pointer (some ⟨b, 0, none⟩), v] 56 (0, 0)) := by
    rw [hgrow.block b hlt (fun e => hne e.symm)]
    exact hbk
  have d0 : w2.cell? ⟨b, 0, none⟩ = some (.pointer (some ⟨b, 0, none⟩)) := by rw [Lib.cell_of_heap hb2]; rfl
  have d1 : w2.cell? ⟨b, 1, none⟩ = some v := by rw [Lib.cell_of_heap hb2]; rfl
  have f1 : w2.frozen? ⟨b, 1, none⟩ = false := Lib.frozen_of_heap hb2 1
  obtain ⟨ao, n', cap, rfl⟩ : ∃ ao n' cap, v' = .slice ao n' cap := by
    rcases hown'.2 with ⟨hv, _⟩ | ⟨g, cap, cur, fz, hv, _⟩
    · exact ⟨_, _, _, hv⟩
    · exact ⟨_, _, _, hv⟩
  go_wp2
  go_ret2
  refine ⟨rfl, ?_, ?_, (hk1.grown hgrow (Lib.ownsRowF_kind hown)).setCell ⟨b, 1, none⟩ rfl _⟩
  · exact Lib.BuilderAtF.put (T := 56) (e := 5) hB hb2 (bs' := bs ++ Lib.strCells s) (by simpa [Lib.strCells_length] using hown') (by decide)
  · exact (hb1.grown hgrow (by have := hb1.size; omega) (fun k hk => (hown.lt k hk).1)).setCell (p := ⟨b, 1, none⟩) hB _
end Go.Proofs.YtmijlcilnaeppaaGreatDoor

/- Which texts may be: the document's signs and Go's runes. -/
set_option linter.unusedSimpArgs false
set_option linter.unusedVariables false
namespace Go.Proofs.YtmijlcilnaeppaaGreatDoor
open Go Go.Lib

/-- how many bytes the first sign has, of four bytes and a length (0: none is right) -/
def signN (n b0 b1 b2 b3 : Nat) : Nat :=
  if b0 < 128 then 1
  else if 194 ≤ b0 ∧ b0 ≤ 223 then (if n < 2 ∨ b1 < 128 ∨ 191 < b1 then 0 else 2)
  else if 224 ≤ b0 ∧ b0 ≤ 239 then (if n < 3 ∨ b1 < (if b0 = 224 then 160 else 128) ∨ (if b0 = 237 then 159 else 191) < b1 ∨ b2 < 128 ∨ 191 < b2 then 0 else 3)
  else if 240 ≤ b0 ∧ b0 ≤ 244 then (if n < 4 ∨ b1 < (if b0 = 240 then 144 else 128) ∨ (if b0 = 244 then 143 else 191) < b1 ∨ b2 < 128 ∨ 191 < b2 ∨ b3 < 128 ∨ 191 < b3 then 0 else 4)
  else 0

def signL (l : List UInt8) : Nat := if l = [] then 0 else signN l.length (l.getD 0 0).toNat (l.getD 1 0).toNat (l.getD 2 0).toNat (l.getD 3 0).toNat

set_option maxRecDepth 100000 in
set_option maxHeartbeats 4000000 in
theorem signN_zero (n b0 b1 b2 b3 : Nat) (hn : 1 ≤ n) (h0 : b0 < 256) (h1 : b1 < 256) (h2 : b2 < 256) (h3 : b3 < 256) (h : signN n b0 b1 b2 b3 = 0) : decodeN n b0 b1 b2 b3 = (65533, 1) := by
  unfold signN at h
  unfold decodeN
  repeat' split at h
  all_goals repeat' split
  all_goals first | rfl | (exfalso; omega) | (apply Prod.ext <;> simp only <;> omega)

set_option maxRecDepth 100000 in
set_option maxHeartbeats 4000000 in
theorem signN_pos (n b0 b1 b2 b3 : Nat) (hn : 1 ≤ n) (h0 : b0 < 256) (h1 : b1 < 256) (h2 : b2 < 256) (h3 : b3 < 256) (h : signN n b0 b1 b2 b3 ≠ 0) : (decodeN n b0 b1 b2 b3).2 = signN n b0 b1 b2 b3 ∧ signN n b0 b1 b2 b3 ≤ n ∧ ¬ ((decodeN n b0 b1 b2 b3).1 = 65533 ∧ (decodeN n b0 b1 b2 b3).2 = 1) ∧ (((decodeN n b0 b1 b2 b3).1 < 32 ∨ (decodeN n b0 b1 b2 b3).1 = 127) ↔ (b0 < 32 ∨ b0 = 127)) := by
  unfold signN at h ⊢
  unfold decodeN
  repeat' split at h
  all_goals repeat' split
  all_goals first | (exfalso; omega) | (refine ⟨?_, ?_, ?_, ?_⟩ <;> first | rfl | omega | (simp only; omega) | (simp only; constructor <;> intro <;> omega))

theorem signL_zero (l : List UInt8) (hne : l ≠ []) (h : signL l = 0) : decodeL l = (65533, 1) := by
  have hl : 0 < l.length := List.length_pos_iff.2 hne
  unfold signL at h
  rw [if_neg hne] at h
  rw [decodeL_N]
  exact signN_zero _ _ _ _ _ hl (UInt8.toNat_lt _) (UInt8.toNat_lt _) (UInt8.toNat_lt _) (UInt8.toNat_lt _) h

theorem signL_pos (l : List UInt8) (h : signL l ≠ 0) : (decodeL l).2 = signL l ∧ signL l ≤ l.length ∧ ¬ ((decodeL l).1 = 65533 ∧ (decodeL l).2 = 1) ∧ (((decodeL l).1 < 32 ∨ (decodeL l).1 = 127) ↔ ((l.getD 0 0).toNat < 32 ∨ (l.getD 0 0).toNat = 127)) := by
  have hne : l ≠ [] := fun e => h (by simp [signL, e])
  have hl : 0 < l.length := List.length_pos_iff.2 hne
  unfold signL at h ⊢
  rw [if_neg hne] at h ⊢
  rw [decodeL_N]
  exact signN_pos _ _ _ _ _ hl (UInt8.toNat_lt _) (UInt8.toNat_lt _) (UInt8.toNat_lt _) (UInt8.toNat_lt _) h

/-- a text that may be -/
def textGo : Nat → List UInt8 → Bool
  | 0, l => l.isEmpty
  | n + 1, l => if l = [] then true else if signL l = 0 ∨ (l.getD 0 0).toNat < 32 ∨ (l.getD 0 0).toNat = 127 then false else textGo n (l.drop (signL l))
def textOk (l : List UInt8) : Bool := textGo l.length l

theorem textGo_fuel : ∀ (n m : Nat) (l : List UInt8), l.length ≤ n → l.length ≤ m → textGo n l = textGo m l
  | 0, m, l, hn, _ => by
    obtain rfl : l = [] := List.eq_nil_of_length_eq_zero (by omega)
    cases m <;> rfl
  | n + 1, 0, l, _, hm => by
    obtain rfl : l = [] := List.eq_nil_of_length_eq_zero (by omega)
    rfl
  | n + 1, m + 1, l, hn, hm => by
    unfold textGo
    by_cases hne : l = []
    · simp [hne]
    · have hl : 0 < l.length := List.length_pos_iff.2 hne
      rw [if_neg hne, if_neg hne]
      by_cases hs : signL l = 0 ∨ (l.getD 0 0).toNat < 32 ∨ (l.getD 0 0).toNat = 127
      · rw [if_pos hs, if_pos hs]
      · rw [if_neg hs, if_neg hs, textGo_fuel n m (l.drop (signL l)) (by rw [List.length_drop]; omega) (by rw [List.length_drop]; omega)]

theorem textOk_nil : textOk [] = true := rfl
theorem textOk_step (l : List UInt8) (hne : l ≠ []) : textOk l = if signL l = 0 ∨ (l.getD 0 0).toNat < 32 ∨ (l.getD 0 0).toNat = 127 then false else textOk (l.drop (signL l)) := by
  have hl : 0 < l.length := List.length_pos_iff.2 hne
  obtain ⟨n, hn⟩ : ∃ n, l.length = n + 1 := ⟨l.length - 1, by omega⟩
  unfold textOk
  rw [hn]
  show (if l = [] then true else _) = _
  rw [if_neg hne]
  by_cases hs : signL l = 0 ∨ (l.getD 0 0).toNat < 32 ∨ (l.getD 0 0).toNat = 127
  · rw [if_pos hs, if_pos hs]
  · rw [if_neg hs, if_neg hs, textGo_fuel n (l.drop (signL l)).length _ (by rw [List.length_drop]; omega) (Nat.le_refl _)]

/-- the runes of a text, one by one: none is below 32, none is 127 -/
def runesGo : Nat → List UInt8 → Bool
  | 0, _ => true
  | n + 1, l => if l = [] then true else if (decodeL l).1 < 32 ∨ (decodeL l).1 = 127 then false else runesGo n (l.drop (decodeL l).2)

theorem runes_text : ∀ (n : Nat) (l : List UInt8), l.length ≤ n → (runesGo n l && validD l) = textOk l
  | 0, l, hn => by
    obtain rfl : l = [] := List.eq_nil_of_length_eq_zero (by omega)
    rfl
  | n + 1, l, hn => by
    by_cases hne : l = []
    · subst hne; rfl
    · have hw := decodeL_width l
      have hl : 0 < l.length := List.length_pos_iff.2 hne
      rw [textOk_step l hne, validD_step l hne]
      show ((if l = [] then true else _) && _) = _
      rw [if_neg hne]
      by_cases hs : signL l = 0
      · have hd := signL_zero l hne hs
        rw [if_pos (Or.inl hs)]
        simp [hd]
      · obtain ⟨h1, h2, h3, h4⟩ := signL_pos l hs
        rw [if_neg h3]
        by_cases hb : (l.getD 0 0).toNat < 32 ∨ (l.getD 0 0).toNat = 127
        · rw [if_pos (h4.2 hb), if_pos (Or.inr hb)]
          rfl
        · rw [if_neg (fun h => hb (h4.1 h)), if_neg (by rintro (h | h); exact hs h; exact hb h), h1]
          exact runes_text n _ (by rw [List.length_drop]; omega)

set_option maxRecDepth 100000 in
set_option maxHeartbeats 4000000 in
theorem signN_more (n n' b0 b1 b2 b3 c1 c2 c3 : Nat) (h : signN n b0 b1 b2 b3 ≠ 0) (hle : n ≤ n') (h1 : 1 < n → c1 = b1) (h2 : 2 < n → c2 = b2) (h3 : 3 < n → c3 = b3) : signN n' b0 c1 c2 c3 = signN n b0 b1 b2 b3 := by
  unfold signN at h ⊢
  repeat' split at h
  all_goals repeat' split
  all_goals first | rfl | (exfalso; omega)

theorem signL_more (l m : List UInt8) (h : signL l ≠ 0) : signL (l ++ m) = signL l := by
  have hne : l ≠ [] := fun e => h (by simp [signL, e])
  have hl : 0 < l.length := List.length_pos_iff.2 hne
  have g : ∀ k, k < l.length → (l ++ m).getD k 0 = l.getD k 0 := fun k hk => by rw [List.getD_eq_getElem?_getD, List.getD_eq_getElem?_getD, List.getElem?_append_left hk]
  unfold signL at h ⊢
  rw [if_neg hne] at h ⊢
  rw [if_neg (by simp [hne]), g 0 hl]
  exact signN_more _ _ _ _ _ _ _ _ _ h (by simp) (fun k => by rw [g 1 k]) (fun k => by rw [g 2 k]) (fun k => by rw [g 3 k])

/-- a text of one sign ahead -/
theorem textOk_append : ∀ (n : Nat) (l m : List UInt8), l.length ≤ n → textOk l = true → textOk (l ++ m) = textOk m
  | 0, l, m, hn, _ => by
    obtain rfl : l = [] := List.eq_nil_of_length_eq_zero (by omega)
    rfl
  | n + 1, l, m, hn, h => by
    by_cases hne : l = []
    · subst hne; rfl
    · rw [textOk_step l hne] at h
      by_cases hs : signL l = 0 ∨ (l.getD 0 0).toNat < 32 ∨ (l.getD 0 0).toNat = 127
      · rw [if_pos hs] at h; cases h
      · rw [if_neg hs] at h
        have hz : signL l ≠ 0 := fun e => hs (Or.inl e)
        obtain ⟨h1, h2, h3, h4⟩ := signL_pos l hz
        have hl : 0 < l.length := List.length_pos_iff.2 hne
        have g0 : (l ++ m).getD 0 0 = l.getD 0 0 := by rw [List.getD_eq_getElem?_getD, List.getD_eq_getElem?_getD, List.getElem?_append_left hl]
        have hse : signL (l ++ m) = signL l := signL_more l m hz
        rw [textOk_step _ (by simp [hne]), hse, g0, if_neg hs, List.drop_append_of_le_length h2]
        exact textOk_append n _ m (by rw [List.length_drop]; omega) h
end Go.Proofs.YtmijlcilnaeppaaGreatDoor

/- Frames as bytes over plain lists: no program, no model. -/
import Derived.Test.YtnoegbogalfdgaaWireCrcMore
set_option linter.unusedSimpArgs false
set_option linter.unusedVariables false
namespace Frame
/-- numbers of three and of four bytes, the greatest part first -/
def big3 (n : Nat) : List UInt8 := [UInt8.ofNat (n / 65536 % 256), UInt8.ofNat (n / 256 % 256), UInt8.ofNat (n % 256)]
def big4 (n : Nat) : List UInt8 := [UInt8.ofNat (n / 16777216 % 256), UInt8.ofNat (n / 65536 % 256), UInt8.ofNat (n / 256 % 256), UInt8.ofNat (n % 256)]
/-- a frame that may be -/
def right (e a k : Int) (s : List UInt8) : Bool := decide (1 ≤ e ∧ e ≤ 16777215 ∧ 0 ≤ a ∧ a < 64 ∧ 1 ≤ k ∧ k ≤ 4 ∧ s.length ≤ 53)
/-- what stands ahead of the sum -/
def body (e a k : Nat) (s : List UInt8) : List UInt8 := big3 e ++ ([UInt8.ofNat a, UInt8.ofNat k, UInt8.ofNat s.length, 0] ++ (s ++ List.replicate (53 - s.length) 0))
def lay (e a k : Nat) (s : List UInt8) : List UInt8 := body e a k s ++ big4 (Wire.crc (body e a k s))
theorem body_length (e a k : Nat) (s : List UInt8) (h : s.length ≤ 53) : (body e a k s).length = 60 := by
  simp [body, big3]; omega
theorem lay_length (e a k : Nat) (s : List UInt8) (h : s.length ≤ 53) : (lay e a k s).length = 64 := by
  simp [lay, big4, body_length e a k s h]
/-- a list that differs from another in one place alone -/
theorem set_append_left {p q : List UInt8} {i : Nat} (x : UInt8) (h : i < p.length) : (p ++ q).set i x = p.set i x ++ q := by
  rw [List.set_append, if_pos h]
theorem set_append_right {p q : List UInt8} {i : Nat} (x : UInt8) (h : p.length ≤ i) : (p ++ q).set i x = p ++ q.set (i - p.length) x := by
  rw [List.set_append, if_neg (by omega)]
theorem set_split {l : List UInt8} {i : Nat} (x : UInt8) (h : i < l.length) : l.set i x = l.take i ++ [x] ++ l.drop (i + 1) := by
  rw [List.set_eq_take_append_cons_drop, if_pos h, List.append_assoc]; rfl
theorem self_split {l : List UInt8} {i : Nat} (h : i < l.length) : l = l.take i ++ [l[i]] ++ l.drop (i + 1) := by
  rw [List.append_assoc, List.singleton_append, ← List.drop_eq_getElem_cons h, List.take_append_drop]
/-- one byte turned of a frame's sector: no frame's sector any more -/
theorem lay_turned {e a k : Nat} {s : List UInt8} (hs : s.length ≤ 53) {i : Nat} {x : UInt8} (hi : i < 64) (hx : (lay e a k s)[i]? ≠ some x) {e' a' k' : Nat} {s' : List UInt8} (hs' : s'.length ≤ 53) :
    (lay e a k s).set i x ≠ lay e' a' k' s' := by
  intro h
  have hb := body_length e a k s hs
  have hb' := body_length e' a' k' s' hs'
  unfold lay at h hx
  generalize body e a k s = p at h hx hb
  generalize body e' a' k' s' = q at h hb'
  by_cases hi60 : i < 60
  · rw [set_append_left x (by omega)] at h
    have h1 := List.append_inj h (by simp; omega)
    rw [List.getElem?_append_left (by omega)] at hx
    have hp : i < p.length := by omega
    have e1 := self_split hp
    have e2 := set_split x hp
    have hc : Wire.crc p = Wire.crc q := by
      have := h1.2
      have hl := Wire.crc_lt p
      have hl' := Wire.crc_lt q
      unfold big4 at this
      simp only [List.cons.injEq, and_true] at this
      obtain ⟨t1, t2, t3, t4⟩ := this
      have g : ∀ {m n : Nat}, UInt8.ofNat (m % 256) = UInt8.ofNat (n % 256) → m % 256 = n % 256 := fun {m n} h => by
        have := congrArg UInt8.toNat h
        simpa using this
      have := g t1; have := g t2; have := g t3; have := g t4
      omega
    rw [← h1.1, e2] at hc
    have hc2 : Wire.crc (p.take i ++ [p[i]] ++ p.drop (i + 1)) = Wire.crc (p.take i ++ [x] ++ p.drop (i + 1)) := by rw [← e1]; exact hc
    have := Wire.crc_byte hc2
    rw [List.getElem?_eq_getElem hp, this] at hx
    exact hx rfl
  · rw [set_append_right x (by omega)] at h
    obtain ⟨rfl, h2⟩ := List.append_inj h (by omega)
    rw [hb'] at h2
    rw [List.getElem?_append_right (by omega), hb'] at hx
    have hlen : i - 60 < (big4 (Wire.crc p)).length := by simp [big4]; omega
    have := congrArg (fun l => l[i - 60]?) h2
    simp only [List.getElem?_set_self hlen] at this
    exact hx this.symm
theorem ofNat_toNat {k : Nat} (h : k < 256) : (UInt8.ofNat k).toNat = k := by simp; omega
/-- a number laid from the last byte on: m bytes of it -/
def bigAfter (l : List UInt8) (off len n : Nat) : Nat → List UInt8
  | 0 => l
  | m + 1 => (bigAfter l off len n m).set (off + (len - 1 - m)) (UInt8.ofNat (n / 256 ^ m % 256))
theorem bigAfter_length (l : List UInt8) (off len n : Nat) : ∀ m, (bigAfter l off len n m).length = l.length
  | 0 => rfl
  | m + 1 => by simp [bigAfter, bigAfter_length l off len n m]
/-- a sector of noughts -/
def noughts : List UInt8 := List.replicate 64 0
theorem first_three (n : Nat) : bigAfter noughts 0 3 n 3 = big3 n ++ List.replicate 61 0 := by
  simp only [bigAfter, noughts, big3, Nat.pow_zero, Nat.div_one]
  rfl
theorem head_of (a k z : UInt8) (n : Nat) : (((big3 n ++ List.replicate 61 (0 : UInt8)).set 3 a).set 4 k).set 5 z = big3 n ++ ([a, k, z, 0] ++ List.replicate 57 0) := rfl
theorem text_of (n : Nat) (q : List UInt8) (hq : q.length = 4) (s : List UInt8) (h : s.length ≤ 53) :
    (big3 n ++ (q ++ List.replicate 57 0)).take 7 ++ s ++ (big3 n ++ (q ++ List.replicate 57 (0 : UInt8))).drop (7 + s.length) =
      (big3 n ++ (q ++ (s ++ List.replicate (53 - s.length) 0))) ++ List.replicate 4 0 := by
  have h7 : (big3 n ++ q).length = 7 := by simp [big3, hq]
  have e : big3 n ++ (q ++ List.replicate 57 (0 : UInt8)) = (big3 n ++ q) ++ List.replicate 57 0 := by simp
  rw [e, List.take_left' h7, ← List.drop_drop, List.drop_left' h7, List.drop_replicate]
  have e2 : List.replicate (57 - s.length) (0 : UInt8) = List.replicate (53 - s.length) 0 ++ List.replicate 4 0 := by
    rw [List.replicate_append_replicate]; congr 1; omega
  rw [e2]
  simp
theorem last_four (p : List UInt8) (hp : p.length = 60) (n : Nat) : bigAfter (p ++ List.replicate 4 0) 60 4 n 4 = p ++ big4 n := by
  simp only [bigAfter, Nat.pow_zero, Nat.div_one]
  rw [set_append_right _ (by omega), set_append_right _ (by omega), set_append_right _ (by omega), set_append_right _ (by omega)]
  rw [hp]
  rfl
end Frame

/- The remainder's steps are linear, and each keeps unlike states unlike. -/
import Derived.Test.YtnoegbogalfdgaaWireCrc
set_option linter.unusedSimpArgs false
set_option linter.unusedVariables false
namespace Wire
theorem turn_xor (a b : Nat) : turn (a ^^^ b) = turn a ^^^ turn b := by
  have h1 : (a ^^^ b) / 2 = a / 2 ^^^ b / 2 := by
    exact Nat.xor_div_two
  have h2 : (a ^^^ b) % 2 = (a + b) % 2 := by
    have := Nat.xor_mod_two_pow (a := a) (b := b) (n := 1)
    simp only [Nat.pow_one] at this
    rw [this]
    rcases Nat.mod_two_eq_zero_or_one a with ha | ha <;> rcases Nat.mod_two_eq_zero_or_one b with hb | hb <;> simp [ha, hb, Nat.add_mod]
  unfold turn
  rw [h1, h2]
  rcases Nat.mod_two_eq_zero_or_one a with ha | ha <;> rcases Nat.mod_two_eq_zero_or_one b with hb | hb
  · rw [if_neg (by omega), if_neg (by omega), if_neg (by omega)]
  · rw [if_pos (by omega), if_neg (by omega), if_pos (by omega), Nat.xor_assoc]
  · rw [if_pos (by omega), if_pos (by omega), if_neg (by omega), Nat.xor_assoc, Nat.xor_assoc, Nat.xor_comm (b / 2)]
  · rw [if_neg (by omega), if_pos (by omega), if_pos (by omega)]
    rw [Nat.xor_assoc, ← Nat.xor_assoc 3988292384, Nat.xor_comm 3988292384 (b / 2), Nat.xor_assoc, Nat.xor_self, Nat.xor_zero]
theorem turns_xor (a b : Nat) : ∀ k, turns k (a ^^^ b) = turns k a ^^^ turns k b
  | 0 => rfl
  | k + 1 => by
    show turn (turns k (a ^^^ b)) = turn (turns k a) ^^^ turn (turns k b)
    rw [turns_xor a b k, turn_xor]
theorem turn_zero {c : Nat} (h : c < 4294967296) (e : turn c = 0) : c = 0 := by
  unfold turn at e
  split at e
  · have h' : c / 2 = 3988292384 := by
      have := congrArg (· ^^^ 3988292384) e
      simpa [Nat.xor_assoc] using this
    omega
  · omega
theorem turns_zero {c : Nat} (h : c < 4294967296) : ∀ k, turns k c = 0 → c = 0
  | 0, e => e
  | k + 1, e => turns_zero h k (turn_zero (turns_lt h k) e)
theorem xor_zero {a b : Nat} (e : a ^^^ b = 0) : a = b := by
  have := congrArg (· ^^^ b) e
  simpa [Nat.xor_assoc] using this
theorem xor_lt {a b : Nat} (ha : a < 4294967296) (hb : b < 4294967296) : a ^^^ b < 4294967296 := Nat.xor_lt_two_pow (n := 32) ha hb
theorem turns_inj {a b : Nat} (ha : a < 4294967296) (hb : b < 4294967296) {k : Nat} (e : turns k a = turns k b) : a = b := by
  refine xor_zero (turns_zero (xor_lt ha hb) k ?_)
  rw [turns_xor, e, Nat.xor_self]
theorem byteStep_inj {a b : Nat} (ha : a < 4294967296) (hb : b < 4294967296) {x : UInt8} (e : byteStep a x = byteStep b x) : a = b := by
  have := turns_inj (xor_byte_lt ha x) (xor_byte_lt hb x) e
  have := congrArg (· ^^^ x.toNat) this
  simpa [Nat.xor_assoc] using this
theorem byteStep_byte {a : Nat} (ha : a < 4294967296) {x y : UInt8} (e : byteStep a x = byteStep a y) : x = y := by
  have := turns_inj (xor_byte_lt ha x) (xor_byte_lt ha y) e
  have := congrArg (a ^^^ ·) this
  simp only [← Nat.xor_assoc, Nat.xor_self, Nat.zero_xor] at this
  exact UInt8.toNat_inj.1 this
theorem state_inj : ∀ (l : List UInt8) {a b : Nat}, a < 4294967296 → b < 4294967296 → state a l = state b l → a = b
  | [], _, _, _, _, e => e
  | x :: r, _, _, ha, hb, e => byteStep_inj ha hb (state_inj r (byteStep_lt ha x) (byteStep_lt hb x) e)
theorem crc_byte {p r : List UInt8} {x y : UInt8} (e : crc (p ++ [x] ++ r) = crc (p ++ [y] ++ r)) : x = y := by
  unfold crc at e
  have e := congrArg (· ^^^ 4294967295) e
  simp only [Nat.xor_assoc, Nat.xor_self, Nat.xor_zero] at e
  have hs : ∀ z, state 4294967295 (p ++ [z] ++ r) = state (byteStep (state 4294967295 p) z) r := fun z => by
    simp [state, List.foldl_append]
  rw [hs, hs] at e
  have hl := state_lt (c := 4294967295) (by decide) p
  exact byteStep_byte hl (state_inj r (byteStep_lt hl x) (byteStep_lt hl y) e)
/-- two texts, byte by byte, exclusive or -/
def xors (l m : List UInt8) : List UInt8 := List.zipWith (· ^^^ ·) l m
theorem byteStep_xor3 (a b c : Nat) (x y z : UInt8) : byteStep (a ^^^ b ^^^ c) (x ^^^ y ^^^ z) = byteStep a x ^^^ byteStep b y ^^^ byteStep c z := by
  unfold byteStep
  rw [← turns_xor, ← turns_xor, UInt8.toNat_xor, UInt8.toNat_xor]
  congr 1
  ac_rfl
theorem state_xor3 : ∀ (l m n : List UInt8) (a b c : Nat), l.length = m.length → l.length = n.length →
    state (a ^^^ b ^^^ c) (xors (xors l m) n) = state a l ^^^ state b m ^^^ state c n
  | [], [], [], _, _, _, _, _ => rfl
  | x :: l, y :: m, z :: n, a, b, c, h1, h2 => by
    show state (byteStep (a ^^^ b ^^^ c) (x ^^^ y ^^^ z)) (xors (xors l m) n) = _
    rw [byteStep_xor3, state_xor3 l m n _ _ _ (by simpa using h1) (by simpa using h2)]
    rfl
  | [], _ :: _, _, _, _, _, h1, _ => by simp at h1
  | _ :: _, [], _, _, _, _, h1, _ => by simp at h1
  | [], [], _ :: _, _, _, _, _, h2 => by simp at h2
  | _ :: _, _ :: _, [], _, _, _, _, h2 => by simp at h2
theorem crc_xor3 (l m n : List UInt8) (h1 : l.length = m.length) (h2 : l.length = n.length) : crc (xors (xors l m) n) = crc l ^^^ crc m ^^^ crc n := by
  unfold crc
  have := state_xor3 l m n 4294967295 4294967295 4294967295 h1 h2
  rw [show (4294967295 ^^^ 4294967295 ^^^ 4294967295 : Nat) = 4294967295 from by decide] at this
  rw [this]
  generalize state 4294967295 l = a; generalize state 4294967295 m = b; generalize state 4294967295 n = c
  have : a ^^^ 4294967295 ^^^ (b ^^^ 4294967295) ^^^ (c ^^^ 4294967295) = (a ^^^ b ^^^ c ^^^ 4294967295) ^^^ (4294967295 ^^^ 4294967295) := by ac_rfl
  rw [this, Nat.xor_self, Nat.xor_zero]
theorem xors_length (l m : List UInt8) (h : l.length = m.length) : (xors l m).length = l.length := by
  unfold xors; simp [h]
theorem xors_take (l m : List UInt8) (k : Nat) (h : k < l.length) (h' : k < m.length) : (xors (l.take (k + 1)) (m.take (k + 1))) = xors (l.take k) (m.take k) ++ [l[k] ^^^ m[k]] := by
  unfold xors
  rw [List.take_succ_eq_append_getElem h, List.take_succ_eq_append_getElem h', List.zipWith_append (by simp; omega)]
  rfl
end Wire

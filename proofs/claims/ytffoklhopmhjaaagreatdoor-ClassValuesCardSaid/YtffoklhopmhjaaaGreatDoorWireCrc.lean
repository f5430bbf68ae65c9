/- The sum of layer 1 over plain numbers: no program, no model. -/
namespace Wire

def turn (c : Nat) : Nat := if c % 2 = 1 then c / 2 ^^^ 3988292384 else c / 2

theorem turn_lt {c : Nat} (h : c < 4294967296) : turn c < 4294967296 := by
  unfold turn
  split
  · have : c / 2 ^^^ 3988292384 < 2 ^ 32 := Nat.xor_lt_two_pow (by omega) (by decide)
    omega
  · omega

def turns : Nat → Nat → Nat
  | 0, c => c
  | k + 1, c => turn (turns k c)

theorem turns_lt {c : Nat} (h : c < 4294967296) : ∀ k, turns k c < 4294967296
  | 0 => h
  | k + 1 => turn_lt (turns_lt h k)

def byteStep (c : Nat) (b : UInt8) : Nat := turns 8 (c ^^^ b.toNat)

theorem xor_byte_lt {c : Nat} (h : c < 4294967296) (b : UInt8) : c ^^^ b.toNat < 4294967296 := by
  have : c ^^^ b.toNat < 2 ^ 32 := Nat.xor_lt_two_pow (by omega) (by have := b.toNat_lt; omega)
  omega

theorem byteStep_lt {c : Nat} (h : c < 4294967296) (b : UInt8) : byteStep c b < 4294967296 := turns_lt (xor_byte_lt h b) 8

def state (c : Nat) (l : List UInt8) : Nat := l.foldl byteStep c

theorem state_lt {c : Nat} (h : c < 4294967296) : ∀ l, state c l < 4294967296
  | [] => h
  | b :: l => state_lt (byteStep_lt h b) l

theorem state_snoc (c : Nat) (l : List UInt8) (b : UInt8) : state c (l ++ [b]) = byteStep (state c l) b := by
  simp [state]

def crc (l : List UInt8) : Nat := state 4294967295 l ^^^ 4294967295

theorem crc_lt (l : List UInt8) : crc l < 4294967296 := by
  have : crc l < 2 ^ 32 := Nat.xor_lt_two_pow (state_lt (by decide) l) (by decide)
  omega

end Wire

/- Which texts may be: the document's signs and Go's runes. -/
import Derived.Lib.ValidLaws
set_option linter.unusedSimpArgs false
set_option linter.unusedVariables false
namespace Go.Proofs.YtffoklhopmhjaaaGreatDoor
open Go Go.Lib

/-- how many bytes the first sign has, of four bytes and a length (0: none is right) -/
def signN (n b0 b1 b2 b3 : Nat) : Nat :=
  if b0 < 128 then 1
  else if 194 ≤ b0 ∧ b0 ≤ 223 then (if n < 2 ∨ b1 < 128 ∨ 191 < b1 then 0 else 2)
  else if 224 ≤ b0 ∧ b0 ≤ 239 then (if n < 3 ∨ b1 < (if b0 = 224 then 160 else 128) ∨ (if b0 = 237 then 159 else 191) < b1 ∨ b2 < 128 ∨ 191 < b2 then 0 else 3)
  else if 240 ≤ b0 ∧ b0 ≤ 244 then (if n < 4 ∨ b1 < (if b0 = 240 then 144 else 128) ∨ (if b0 = 244 then 143 else 191) < b1 ∨ b2 < 128 ∨ 191 < b2 ∨ b3 < 128 ∨ 191 < b3 then 0 else 4)
  else 0

def signL (l : List UInt8) : Nat := if l = [] then 0 else signN l.length (l.getD 0 0).toNat (l.getD 1 0).toNat (l.getD 2 0).toNat (l.getD 3 0).toNat

set_option maxRecDepth 100000 in
set_option maxHeartbeats 4000000 in
theorem signN_zero (n b0 b1 b2 b3 : Nat) (hn : 1 ≤ n) (h0 : b0 < 256) (h1 : b1 < 256) (h2 : b2 < 256) (h3 : b3 < 256) (h : signN n b0 b1 b2 b3 = 0) : decodeN n b0 b1 b2 b3 = (65533, 1) := by
  unfold signN at h
  unfold decodeN
  repeat' split at h
  all_goals repeat' split
  all_goals first | rfl | (exfalso; omega) | (apply Prod.ext <;> simp only <;> omega)

set_option maxRecDepth 100000 in
set_option maxHeartbeats 4000000 in
theorem signN_pos (n b0 b1 b2 b3 : Nat) (hn : 1 ≤ n) (h0 : b0 < 256) (h1 : b1 < 256) (h2 : b2 < 256) (h3 : b3 < 256) (h : signN n b0 b1 b2 b3 ≠ 0) : (decodeN n b0 b1 b2 b3).2 = signN n b0 b1 b2 b3 ∧ signN n b0 b1 b2 b3 ≤ n ∧ ¬ ((decodeN n b0 b1 b2 b3).1 = 65533 ∧ (decodeN n b0 b1 b2 b3).2 = 1) ∧ (((decodeN n b0 b1 b2 b3).1 < 32 ∨ (decodeN n b0 b1 b2 b3).1 = 127) ↔ (b0 < 32 ∨ b0 = 127)) := by
  unfold signN at h ⊢
  unfold decodeN
  repeat' split at h
  all_goals repeat' split
  all_goals first | (exfalso; omega) | (refine ⟨?_, ?_, ?_, ?_⟩ <;> first | rfl | omega | (simp only; omega) | (simp only; constructor <;> intro <;> omega))

theorem signL_zero (l : List UInt8) (hne : l ≠ []) (h : signL l = 0) : decodeL l = (65533, 1) := by
  have hl : 0 < l.length := List.length_pos_iff.2 hne
  unfold signL at h
  rw [if_neg hne] at h
  rw [decodeL_N]
  exact signN_zero _ _ _ _ _ hl (UInt8.toNat_lt _) (UInt8.toNat_lt _) (UInt8.toNat_lt _) (UInt8.toNat_lt _) h

theorem signL_pos (l : List UInt8) (h : signL l ≠ 0) : (decodeL l).2 = signL l ∧ signL l ≤ l.length ∧ ¬ ((decodeL l).1 = 65533 ∧ (decodeL l).2 = 1) ∧ (((decodeL l).1 < 32 ∨ (decodeL l).1 = 127) ↔ ((l.getD 0 0).toNat < 32 ∨ (l.getD 0 0).toNat = 127)) := by
  have hne : l ≠ [] := fun e => h (by simp [signL, e])
  have hl : 0 < l.length := List.length_pos_iff.2 hne
  unfold signL at h ⊢
  rw [if_neg hne] at h ⊢
  rw [decodeL_N]
  exact signN_pos _ _ _ _ _ hl (UInt8.toNat_lt _) (UInt8.toNat_lt _) (UInt8.toNat_lt _) (UInt8.toNat_lt _) h

/-- a text that may be -/
def textGo : Nat → List UInt8 → Bool
  | 0, l => l.isEmpty
  | n + 1, l => if l = [] then true else if signL l = 0 ∨ (l.getD 0 0).toNat < 32 ∨ (l.getD 0 0).toNat = 127 then false else textGo n (l.drop (signL l))
def textOk (l : List UInt8) : Bool := textGo l.length l

theorem textGo_fuel : ∀ (n m : Nat) (l : List UInt8), l.length ≤ n → l.length ≤ m → textGo n l = textGo m l
  | 0, m, l, hn, _ => by
    obtain rfl : l = [] := List.eq_nil_of_length_eq_zero (by omega)
    cases m <;> rfl
  | n + 1, 0, l, _, hm => by
    obtain rfl : l = [] := List.eq_nil_of_length_eq_zero (by omega)
    rfl
  | n + 1, m + 1, l, hn, hm => by
    unfold textGo
    by_cases hne : l = []
    · simp [hne]
    · have hl : 0 < l.length := List.length_pos_iff.2 hne
      rw [if_neg hne, if_neg hne]
      by_cases hs : signL l = 0 ∨ (l.getD 0 0).toNat < 32 ∨ (l.getD 0 0).toNat = 127
      · rw [if_pos hs, if_pos hs]
      · rw [if_neg hs, if_neg hs, textGo_fuel n m (l.drop (signL l)) (by rw [List.length_drop]; omega) (by rw [List.length_drop]; omega)]

theorem textOk_nil : textOk [] = true := rfl
theorem textOk_step (l : List UInt8) (hne : l ≠ []) : textOk l = if signL l = 0 ∨ (l.getD 0 0).toNat < 32 ∨ (l.getD 0 0).toNat = 127 then false else textOk (l.drop (signL l)) := by
  have hl : 0 < l.length := List.length_pos_iff.2 hne
  obtain ⟨n, hn⟩ : ∃ n, l.length = n + 1 := ⟨l.length - 1, by omega⟩
  unfold textOk
  rw [hn]
  show (if l = [] then true else _) = _
  rw [if_neg hne]
  by_cases hs : signL l = 0 ∨ (l.getD 0 0).toNat < 32 ∨ (l.getD 0 0).toNat = 127
  · rw [if_pos hs, if_pos hs]
  · rw [if_neg hs, if_neg hs, textGo_fuel n (l.drop (signL l)).length _ (by rw [List.length_drop]; omega) (Nat.le_refl _)]

/-- the runes of a text, one by one: none is below 32, none is 127 -/
def runesGo : Nat → List UInt8 → Bool
  | 0, _ => true
  | n + 1, l => if l = [] then true else if (decodeL l).1 < 32 ∨ (decodeL l).1 = 127 then false else runesGo n (l.drop (decodeL l).2)

theorem runes_text : ∀ (n : Nat) (l : List UInt8), l.length ≤ n → (runesGo n l && validD l) = textOk l
  | 0, l, hn => by
    obtain rfl : l = [] := List.eq_nil_of_length_eq_zero (by omega)
    rfl
  | n + 1, l, hn => by
    by_cases hne : l = []
    · subst hne; rfl
    · have hw := decodeL_width l
      have hl : 0 < l.length := List.length_pos_iff.2 hne
      rw [textOk_step l hne, validD_step l hne]
      show ((if l = [] then true else _) && _) = _
      rw [if_neg hne]
      by_cases hs : signL l = 0
      · have hd := signL_zero l hne hs
        rw [if_pos (Or.inl hs)]
        simp [hd]
      · obtain ⟨h1, h2, h3, h4⟩ := signL_pos l hs
        rw [if_neg h3]
        by_cases hb : (l.getD 0 0).toNat < 32 ∨ (l.getD 0 0).toNat = 127
        · rw [if_pos (h4.2 hb), if_pos (Or.inr hb)]
          rfl
        · rw [if_neg (fun h => hb (h4.1 h)), if_neg (by rintro (h | h); exact hs h; exact hb h), h1]
          exact runes_text n _ (by rw [List.length_drop]; omega)

set_option maxRecDepth 100000 in
set_option maxHeartbeats 4000000 in
theorem signN_more (n n' b0 b1 b2 b3 c1 c2 c3 : Nat) (h : signN n b0 b1 b2 b3 ≠ 0) (hle : n ≤ n') (h1 : 1 < n → c1 = b1) (h2 : 2 < n → c2 = b2) (h3 : 3 < n → c3 = b3) : signN n' b0 c1 c2 c3 = signN n b0 b1 b2 b3 := by
  unfold signN at h ⊢
  repeat' split at h
  all_goals repeat' split
  all_goals first | rfl | (exfalso; omega)

theorem signL_more (l m : List UInt8) (h : signL l ≠ 0) : signL (l ++ m) = signL l := by
  have hne : l ≠ [] := fun e => h (by simp [signL, e])
  have hl : 0 < l.length := List.length_pos_iff.2 hne
  have g : ∀ k, k < l.length → (l ++ m).getD k 0 = l.getD k 0 := fun k hk => by rw [List.getD_eq_getElem?_getD, List.getD_eq_getElem?_getD, List.getElem?_append_left hk]
  unfold signL at h ⊢
  rw [if_neg hne] at h ⊢
  rw [if_neg (by simp [hne]), g 0 hl]
  exact signN_more _ _ _ _ _ _ _ _ _ h (by simp) (fun k => by rw [g 1 k]) (fun k => by rw [g 2 k]) (fun k => by rw [g 3 k])

/-- a text of one sign ahead -/
theorem textOk_append : ∀ (n : Nat) (l m : List UInt8), l.length ≤ n → textOk l = true → textOk (l ++ m) = textOk m
  | 0, l, m, hn, _ => by
    obtain rfl : l = [] := List.eq_nil_of_length_eq_zero (by omega)
    rfl
  | n + 1, l, m, hn, h => by
    by_cases hne : l = []
    · subst hne; rfl
    · rw [textOk_step l hne] at h
      by_cases hs : signL l = 0 ∨ (l.getD 0 0).toNat < 32 ∨ (l.getD 0 0).toNat = 127
      · rw [if_pos hs] at h; cases h
      · rw [if_neg hs] at h
        have hz : signL l ≠ 0 := fun e => hs (Or.inl e)
        obtain ⟨h1, h2, h3, h4⟩ := signL_pos l hz
        have hl : 0 < l.length := List.length_pos_iff.2 hne
        have g0 : (l ++ m).getD 0 0 = l.getD 0 0 := by rw [List.getD_eq_getElem?_getD, List.getD_eq_getElem?_getD, List.getElem?_append_left hl]
        have hse : signL (l ++ m) = signL l := signL_more l m hz
        rw [textOk_step _ (by simp [hne]), hse, g0, if_neg hs, List.drop_append_of_le_length h2]
        exact textOk_append n _ m (by rw [List.length_drop]; omega) h
end Go.Proofs.YtffoklhopmhjaaaGreatDoor

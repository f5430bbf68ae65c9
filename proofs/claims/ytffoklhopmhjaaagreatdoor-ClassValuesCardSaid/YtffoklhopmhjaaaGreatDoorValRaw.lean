/- Values of raw numbers: which they are. -/
import Derived.Test.YtffoklhopmhjaaaGreatDoorValOrd
import Derived.Test.YtffoklhopmhjaaaGreatDoorValDec
set_option linter.unusedSimpArgs false
set_option linter.unusedVariables false
namespace Go.Proofs.YtffoklhopmhjaaaGreatDoor
open Go Go.RowKit Go.Shelf

def pickI (c n : Int) : Int := (if c < 0 then -(c + 1) else c) % n
theorem pickI_bd (c n : Int) (h : 0 < n) : 0 ≤ pickI c n ∧ pickI c n < n := ⟨Int.emod_nonneg _ (by omega), Int.emod_lt_of_pos _ h⟩

/-- the signs of a text that may be, as many as make less than 17 bytes and one more -/
def vtGo : Nat → List UInt8 → List UInt8 → List UInt8
  | 0, l, out => out
  | f + 1, l, out => if l = [] ∨ 17 ≤ out.length then out else vtGo f (l.drop (max (signL l) 1)) (if textOk (l.take (max (signL l) 1)) = true then out ++ l.take (max (signL l) 1) else out)
def valText (l : List UInt8) : List UInt8 := vtGo l.length l []

theorem signL_le (l : List UInt8) : signL l ≤ 4 := by
  unfold signL signN
  repeat' split
  all_goals omega
theorem vtGo_ok : ∀ (f : Nat) (l out : List UInt8), textOk out = true → out.length ≤ 20 → textOk (vtGo f l out) = true ∧ (vtGo f l out).length ≤ 20
  | 0, l, out, h1, h2 => ⟨h1, h2⟩
  | f + 1, l, out, h1, h2 => by
    unfold vtGo
    split
    · exact ⟨h1, h2⟩
    · rename_i hc
      have hl : out.length < 17 := by
        rcases Nat.lt_or_ge out.length 17 with h | h
        · exact h
        · exact absurd (Or.inr h) hc
      split
      · rename_i ht
        refine vtGo_ok f _ _ (by rw [textOk_append _ _ _ (Nat.le_refl _) h1]; exact ht) ?_
        have := signL_le l
        simp only [List.length_append, List.length_take]
        omega
      · exact vtGo_ok f _ _ h1 h2
theorem valText_ok (l : List UInt8) : textOk (valText l) = true ∧ (valText l).length ≤ 20 := vtGo_ok _ _ _ rfl (by simp)

theorem vtGo_fuel : ∀ (f g : Nat) (l out : List UInt8), l.length ≤ f → l.length ≤ g → vtGo f l out = vtGo g l out
  | 0, 0, _, _, _, _ => rfl
  | 0, g + 1, l, out, hf, _ => by
    obtain rfl : l = [] := List.eq_nil_of_length_eq_zero (by omega)
    show out = vtGo (g + 1) [] out
    unfold vtGo
    rw [if_pos (.inl rfl)]
  | f + 1, 0, l, out, _, hg => by
    obtain rfl : l = [] := List.eq_nil_of_length_eq_zero (by omega)
    show vtGo (f + 1) [] out = out
    unfold vtGo
    rw [if_pos (.inl rfl)]
  | f + 1, g + 1, l, out, hf, hg => by
    unfold vtGo
    by_cases h : l = [] ∨ 17 ≤ out.length
    · rw [if_pos h, if_pos h]
    · rw [if_neg h, if_neg h]
      have hl : 0 < l.length := List.length_pos_iff.2 (fun e => h (.inl e))
      exact vtGo_fuel f g _ _ (by rw [List.length_drop]; omega) (by rw [List.length_drop]; omega)

/-- raw numbers of a value -/
structure RawOne where
  k : Int
  n : Int
  s : ByteArray
def valOne (k : Int) (x : RawOne) : V :=
  if k = 1 then .mk 1 (if x.n < -1000000000000000 ∨ 1000000000000000 < x.n then pickI x.n 1000000000000001 else x.n) ⟨#[]⟩ []
  else if k = 2 then .mk 2 0 ⟨(valText x.s.data.toList).toArray⟩ []
  else if k = 3 ∨ k = 4 then .mk k (1 + pickI x.n 100000) ⟨#[]⟩ []
  else .mk 0 0 ⟨#[]⟩ []
theorem ba_size (l : List UInt8) : (⟨l.toArray⟩ : ByteArray).size = l.length := List.size_toArray
theorem valOne_ok (k : Int) (x : RawOne) : (valOne k x).flatOk = true ∧ (valOne k x).k ≠ 5 ∧ (valOne k x).l = [] := by
  unfold valOne
  split
  · refine ⟨?_, by show (1 : Int) ≠ 5; decide, rfl⟩
    have := pickI_bd x.n 1000000000000001 (by decide)
    have hb : ∀ n : Int, -1000000000000000 ≤ n ∧ n ≤ 1000000000000000 → flatOk 1 n ⟨#[]⟩ 0 = true := by
      intro n hn
      unfold flatOk
      rw [if_neg (by decide), if_pos rfl]
      exact decide_eq_true ⟨hn, rfl, rfl⟩
    refine hb _ ?_
    show -1000000000000000 ≤ (if _ then _ else _) ∧ (if _ then _ else _) ≤ _
    split <;> omega
  · split
    · refine ⟨?_, by show (2 : Int) ≠ 5; decide, rfl⟩
      have := valText_ok x.s.data.toList
      show flatOk 2 0 _ 0 = true
      unfold flatOk
      rw [if_neg (by decide), if_neg (by decide), if_pos rfl]
      refine decide_eq_true ⟨rfl, ⟨?_, ?_⟩, rfl⟩
      · show (⟨(valText x.s.data.toList).toArray⟩ : ByteArray).size ≤ 60
        rw [ba_size]; omega
      · exact this.1
    · split
      · rename_i h
        have hp := pickI_bd x.n 100000 (by decide)
        refine ⟨?_, by show k ≠ 5; omega, rfl⟩
        show flatOk k (1 + pickI x.n 100000) _ 0 = true
        unfold flatOk
        rw [if_neg (by omega), if_neg (by omega), if_neg (by omega), if_pos h]
        exact decide_eq_true ⟨.inl (by omega), rfl, rfl⟩
      · exact ⟨rfl, by decide, rfl⟩

structure Raw where
  k : Int
  n : Int
  s : ByteArray
  l : List RawOne
def valOf (x : Raw) : V :=
  if pickI x.k 7 < 5 then
    (if 3 ≤ (valOne (pickI x.k 7) ⟨0, x.n, x.s⟩).k ∧ pickI (x.k.tdiv 7) 4 = 0 then .mk (valOne (pickI x.k 7) ⟨0, x.n, x.s⟩).k (-1 - pickI x.n 20) ⟨#[]⟩ [] else valOne (pickI x.k 7) ⟨0, x.n, x.s⟩)
  else .mk 5 0 ⟨#[]⟩ ((x.l.take 12).map (fun r => valOne (pickI r.k 5) r))

theorem valOne_k {k : Int} {x : RawOne} (h : 3 ≤ (valOne k x).k) : (k = 3 ∨ k = 4) ∧ (valOne k x).k = k := by
  unfold valOne at h ⊢
  repeat' split at h
  all_goals first
    | (exfalso; revert h; show ¬ (3 ≤ (1 : Int)); decide)
    | (exfalso; revert h; show ¬ (3 ≤ (2 : Int)); decide)
    | (exfalso; revert h; show ¬ (3 ≤ (0 : Int)); decide)
    | skip
  rename_i h1 h2 h3
  rw [if_neg h1, if_neg h2, if_pos h3]
  exact ⟨h3, rfl⟩

theorem valOf_ok (x : Raw) : (valOf x).ok = true := by
  unfold valOf
  split
  · have h := valOne_ok (pickI x.k 7) ⟨0, x.n, x.s⟩
    split
    · rename_i hc
      obtain ⟨h1, h2⟩ := valOne_k hc.1
      rw [h2]
      have hp := pickI_bd x.n 20 (by decide)
      unfold V.ok
      rw [if_neg (by show ¬ pickI x.k 7 = 5; omega)]
      show flatOk (pickI x.k 7) (-1 - pickI x.n 20) _ 0 = true
      unfold flatOk
      rw [if_neg (by omega), if_neg (by omega), if_neg (by omega), if_pos h1]
      exact decide_eq_true ⟨.inr (by omega), rfl, rfl⟩
    · unfold V.ok
      rw [if_neg h.2.1]
      exact h.1
  · unfold V.ok
    show (if (5 : Int) = 5 then _ else _) = true
    rw [if_pos rfl]
    simp only [V.n, V.s, V.l]
    rw [Bool.and_eq_true, Bool.and_eq_true]
    refine ⟨by decide, decide_eq_true (by rw [List.length_map, List.length_take]; omega), ?_⟩
    rw [List.all_eq_true]
    intro u hu
    obtain ⟨r, _, rfl⟩ := List.mem_map.1 hu
    have h := valOne_ok (pickI r.k 5) r
    unfold V.okIn
    rw [h.1, Bool.and_true]
    simpa using h.2.1

theorem flat_fine {u : V} (h : u.flatOk = true) : u.fine := by
  have := flatOk_parts h
  exact ⟨by omega, by omega, by omega, by omega⟩
theorem ok_fine {v : V} (h : v.ok = true) : v.fine := by
  by_cases h5 : v.k = 5
  · obtain ⟨e, hl, _⟩ := ok_list h h5
    have hn : v.n = 0 := by rw [e]; rfl
    have hs : v.s.size = 0 := by rw [e]; rfl
    exact ⟨by omega, by omega, by omega, by omega⟩
  · exact flat_fine (ok_flat h h5)
theorem ok_deep {v : V} (h : v.ok = true) : V.flat 1 v := by
  intro u hu
  by_cases h5 : v.k = 5
  · have := (ok_list h h5).2.2 u hu
    have := (flatOk_parts (okIn_parts this).2).2.2.1
    exact List.eq_nil_of_length_eq_zero this
  · have := (flatOk_parts (ok_flat h h5)).2.2.1
    rw [List.eq_nil_of_length_eq_zero this] at hu
    cases hu
end Go.Proofs.YtffoklhopmhjaaaGreatDoor

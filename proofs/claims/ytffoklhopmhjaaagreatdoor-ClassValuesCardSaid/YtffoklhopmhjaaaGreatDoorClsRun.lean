/- What class.read does, as a run over the reader's places, and what it finds. -/
import Derived.Test.YtffoklhopmhjaaaGreatDoorParts
set_option linter.unusedSimpArgs false
set_option linter.unusedVariables false
namespace Go.Proofs.YtffoklhopmhjaaaGreatDoor
open Go Go.RowKit Go.Shelf Go.Sort

/-- a field's parts: the field without its last part, the last part, the place behind -/
noncomputable def stepF (s : ByteArray) (o : Option Nat) : Fl × Int × Option Nat :=
  (⟨⟨(textS s o).1.toArray⟩, (numS s (textS s o).2).1, (numS s (numS s (textS s o).2).2).1, false⟩, (numS s (numS s (numS s (textS s o).2).2).2).1, (numS s (numS s (numS s (textS s o).2).2).2).2)
noncomputable def loopS (s : ByteArray) : Nat → List Fl → Option Nat → Bool × List Fl × Option Nat
  | 0, acc, o => (true, acc, o)
  | n + 1, acc, o => if (stepF s o).2.1 = 0 then loopS s n (acc ++ [(stepF s o).1]) (stepF s o).2.2
      else if (stepF s o).2.1 = 1 then loopS s n (acc ++ [{ (stepF s o).1 with ix := true }]) (stepF s o).2.2
      else (false, acc, (stepF s o).2.2)
noncomputable def clsRun (s : ByteArray) (o : Option Nat) : Bool × List Fl × Option Nat :=
  if (numS s (textS s o).2).1 < 0 ∨ 8 < (numS s (textS s o).2).1 then (false, [], (numS s (textS s o).2).2) else loopS s (numS s (textS s o).2).1.toNat [] (numS s (textS s o).2).2

theorem textS_none (s : ByteArray) : textS s none = ([], none) := rfl
theorem numS_none (s : ByteArray) : numS s none = (0, none) := rfl
theorem textS_no {s : ByteArray} {p : Nat} (h : textP (s.data.toList.drop p) = none) : textS s (some p) = ([], none) := by unfold textS; simp only; rw [h]
theorem numS_no {s : ByteArray} {p : Nat} (h : numP (s.data.toList.drop p) = none) : numS s (some p) = (0, none) := by unfold numS; simp only; rw [h]
theorem textS_is {s : ByteArray} {p : Nat} {x : List UInt8 × Nat} (h : textP (s.data.toList.drop p) = some x) : textS s (some p) = (x.1, some (p + x.2)) := by unfold textS; simp only; rw [h]
theorem numS_is {s : ByteArray} {p : Nat} {x : Int × Nat} (h : numP (s.data.toList.drop p) = some x) : numS s (some p) = (x.1, some (p + x.2)) := by unfold numS; simp only; rw [h]

theorem step_none (s : ByteArray) : (stepF s none).2.2 = none ∧ (stepF s none).2.1 = 0 := by
  unfold stepF
  rw [textS_none]
  simp [numS_none]
theorem step_some (s : ByteArray) (p : Nat) : match fieldP (s.data.toList.drop p) with
    | some y => stepF s (some p) = ({ y.1 with ix := false }, (if y.1.ix then 1 else 0), some (p + y.2))
    | none => (stepF s (some p)).2.2 = none ∨ ((stepF s (some p)).2.1 ≠ 0 ∧ (stepF s (some p)).2.1 ≠ 1) := by
  unfold fieldP seqP
  cases h1 : textP (s.data.toList.drop p) with
  | none =>
    show _ ∨ _
    left
    unfold stepF
    rw [textS_no h1]
    simp only [numS_none]
  | some t =>
    simp only [List.drop_drop]
    cases h2 : numP (s.data.toList.drop (p + t.2)) with
    | none =>
      show _ ∨ _
      left
      unfold stepF
      rw [textS_is h1]
      simp only [numS_no h2, numS_none]
    | some k =>
      simp only [List.drop_drop]
      cases h3 : numP (s.data.toList.drop (p + t.2 + k.2)) with
      | none =>
        show _ ∨ _
        left
        unfold stepF
        rw [textS_is h1]
        simp only [numS_is h2, numS_no h3, numS_none]
      | some o =>
        simp only [List.drop_drop]
        unfold ixP
        cases h4 : numP (s.data.toList.drop (p + t.2 + k.2 + o.2)) with
        | none =>
          show _ ∨ _
          left
          unfold stepF
          rw [textS_is h1]
          simp only [numS_is h2, numS_is h3, numS_no h4]
        | some x =>
          have hst : stepF s (some p) = (⟨⟨t.1.toArray⟩, k.1, o.1, false⟩, x.1, some (p + t.2 + k.2 + o.2 + x.2)) := by
            unfold stepF
            rw [textS_is h1]
            simp only [numS_is h2, numS_is h3, numS_is h4]
          rw [hst]
          simp only
          by_cases e0 : x.1 = 0
          · rw [if_pos e0]
            simp only [e0]
            congr 2
            · simp
              omega
          · rw [if_neg e0]
            by_cases e1 : x.1 = 1
            · rw [if_pos e1]
              simp only [e1]
              congr 2
              · simp
                omega
            · rw [if_neg e1]
              exact .inr ⟨e0, e1⟩
theorem loop_none (s : ByteArray) : ∀ (n : Nat) (acc : List Fl), (loopS s n acc none).2.2 = none
  | 0, acc => rfl
  | n + 1, acc => by
    have h := step_none s
    unfold loopS
    rw [if_pos h.2, h.1]
    exact loop_none s n _
theorem loop_some (s : ByteArray) : ∀ (n : Nat) (acc : List Fl) (p : Nat), match fieldsP n (s.data.toList.drop p) with
    | some y => loopS s n acc (some p) = (true, acc ++ y.1, some (p + y.2))
    | none => (loopS s n acc (some p)).1 = false ∨ (loopS s n acc (some p)).2.2 = none
  | 0, acc, p => by
    show loopS s 0 acc (some p) = _
    simp [loopS]
  | n + 1, acc, p => by
    have hs := step_some s p
    unfold fieldsP seqP
    unfold loopS
    cases hf : fieldP (s.data.toList.drop p) with
    | none =>
      rw [hf] at hs
      show _ ∨ _
      rcases hs with hs | ⟨h0, h1⟩
      · right
        split
        · rw [hs]; exact loop_none s n _
        · split
          · rw [hs]; exact loop_none s n _
          · exact hs
      · left
        rw [if_neg h0, if_neg h1]
    | some y =>
      rw [hf] at hs
      simp only at hs
      rw [hs]
      simp only [List.drop_drop]
      obtain ⟨⟨fn, fk, fo, fx⟩, a⟩ := y
      simp only
      cases fx with
      | false =>
        have ih := loop_some s n (acc ++ [⟨fn, fk, fo, false⟩]) (p + a)
        simp only [Bool.false_eq_true, if_false, if_true]
        cases hr : fieldsP n (s.data.toList.drop (p + a)) with
        | none => rw [hr] at ih; exact ih
        | some z =>
          rw [hr] at ih
          simp only at ih ⊢
          rw [ih]
          simp [Nat.add_assoc]
      | true =>
        have ih := loop_some s n (acc ++ [⟨fn, fk, fo, true⟩]) (p + a)
        simp only [if_true, show ¬ ((1 : Int) = 0) from by decide, if_false]
        cases hr : fieldsP n (s.data.toList.drop (p + a)) with
        | none => rw [hr] at ih; exact ih
        | some z =>
          rw [hr] at ih
          simp only at ih ⊢
          rw [ih]
          simp [Nat.add_assoc]
/-- what the run finds is what the bytes say -/
theorem clsRun_is (s : ByteArray) (p : Nat) : match clsP (s.data.toList.drop p) with
    | some y => (clsRun s (some p) = (true, y.1.fs, some (p + y.2))) ∧ (⟨(textS s (some p)).1.toArray⟩ : ByteArray) = y.1.nm
    | none => (clsRun s (some p)).1 = false ∨ (clsRun s (some p)).2.2 = none := by
  unfold clsP seqP
  cases h1 : textP (s.data.toList.drop p) with
  | none =>
    show _ ∨ _
    right
    unfold clsRun
    rw [textS_no h1]
    split
    · rfl
    · exact loop_none s _ _
  | some t =>
    simp only [List.drop_drop]
    unfold sizeP
    cases h2 : numP (s.data.toList.drop (p + t.2)) with
    | none =>
      show _ ∨ _
      right
      unfold clsRun
      rw [textS_is h1]
      simp only [numS_no h2]
      split
      · rfl
      · exact loop_none s _ _
    | some n =>
      simp only
      by_cases hn : 0 ≤ n.1 ∧ n.1 ≤ 8
      · rw [if_pos hn]
        simp only [List.drop_drop]
        have hl := loop_some s n.1.toNat [] (p + t.2 + n.2)
        have hc : clsRun s (some p) = loopS s n.1.toNat [] (some (p + t.2 + n.2)) := by
          unfold clsRun
          rw [textS_is h1]
          simp only [numS_is h2]
          rw [if_neg (by omega)]
        rw [hc]
        cases hf : fieldsP n.1.toNat (s.data.toList.drop (p + t.2 + n.2)) with
        | none => rw [hf] at hl; exact hl
        | some y =>
          rw [hf] at hl
          simp only [List.nil_append] at hl ⊢
          rw [hl, textS_is h1]
          exact ⟨by simp [Nat.add_assoc], rfl⟩
      · rw [if_neg hn]
        show _ ∨ _
        left
        unfold clsRun
        rw [textS_is h1]
        simp only [numS_is h2]
        rw [if_pos (by omega)]
end Go.Proofs.YtffoklhopmhjaaaGreatDoor

/- What bytes say of classes: readers that undo laying. -/
import Derived.Test.YtffoklhopmhjaaaGreatDoorClsDef
set_option linter.unusedSimpArgs false
set_option linter.unusedVariables false
namespace Go.Proofs.YtffoklhopmhjaaaGreatDoor
open Go Go.RowKit Go.Shelf

/-- a reader: what it reads, and of how many bytes -/
abbrev Prs (α : Type) := List UInt8 → Option (α × Nat)
/-- it undoes bytes, whatever stands behind, and finds nothing in less -/
structure Undo {α : Type} (P : Prs α) (b : List UInt8) (v : α) : Prop where
  app : ∀ r, P (b ++ r) = some (v, b.length)
  cut : ∀ k, k < b.length → P (b.take k) = none
def seqP {α β γ : Type} (P : Prs α) (Q : α → Prs β) (f : α → β → γ) : Prs γ := fun l => match P l with
  | none => none
  | some x => match Q x.1 (l.drop x.2) with
    | none => none
    | some y => some (f x.1 y.1, x.2 + y.2)
theorem Undo.seq {α β γ : Type} {P : Prs α} {Q : α → Prs β} {b b' : List UInt8} {v : α} {v' : β} (h : Undo P b v) (h' : Undo (Q v) b' v') (f : α → β → γ) : Undo (seqP P Q f) (b ++ b') (f v v') := by
  refine ⟨fun r => ?_, fun k hk => ?_⟩
  · unfold seqP
    rw [List.append_assoc, h.app]
    simp only [List.drop_left]
    rw [h'.app]
    simp
  · unfold seqP
    rcases take_of_append b b' k hk with ⟨h1, h2⟩ | ⟨h1, h2, h3⟩
    · rw [h2, h.cut k h1]
    · rw [h3, h.app]
      simp only [List.drop_left]
      rw [h'.cut _ h2]
noncomputable def numP : Prs Int := fun l => (numL l).map (fun v => (v, (Wire.num v).length))
noncomputable def textP : Prs (List UInt8) := fun l => (textL l).map (fun t => (t, (Wire.num t.length).length + t.length))
theorem undo_num {v : Int} (hv : Wire.inRange v) : Undo numP (Wire.num v) v :=
  ⟨fun r => by unfold numP; rw [numL_append hv]; rfl, fun k hk => by unfold numP; rw [numL_cut hv hk]; rfl⟩
theorem undo_text {t : List UInt8} (h0 : t.length ≤ 10000) : Undo textP (Wire.num t.length ++ t) t :=
  ⟨fun r => by unfold textP; rw [textL_append h0]; simp, fun k hk => by unfold textP; rw [textL_cut h0 hk]; rfl⟩
noncomputable def ixP : Prs Bool := fun l => match numP l with
  | none => none
  | some x => if x.1 = 0 then some (false, x.2) else if x.1 = 1 then some (true, x.2) else none
noncomputable def sizeP : Prs Nat := fun l => match numP l with
  | none => none
  | some x => if 0 ≤ x.1 ∧ x.1 ≤ 8 then some (x.1.toNat, x.2) else none
theorem undo_ix (b : Bool) : Undo ixP (Wire.num (if b then 1 else 0)) b := by
  have h := undo_num (v := if b then 1 else 0) (by cases b <;> exact ⟨by decide, by decide⟩)
  refine ⟨fun r => ?_, fun k hk => ?_⟩
  · unfold ixP
    rw [h.app]
    cases b <;> simp
  · unfold ixP
    rw [h.cut k hk]
theorem undo_size {n : Nat} (hn : n ≤ 8) : Undo sizeP (Wire.num n) n := by
  have h := undo_num (v := (n : Int)) ⟨by omega, by omega⟩
  refine ⟨fun r => ?_, fun k hk => ?_⟩
  · unfold sizeP
    rw [h.app]
    simp only
    rw [if_pos (by omega)]
    simp
  · unfold sizeP
    rw [h.cut k hk]
noncomputable def fieldP : Prs Fl := seqP textP (fun t => seqP numP (fun k => seqP numP (fun o => ixP) (fun o b => (o, b))) (fun k ob => (k, ob))) (fun t x => ⟨⟨t.toArray⟩, x.1, x.2.1, x.2.2⟩)
noncomputable def fieldsP : Nat → Prs (List Fl)
  | 0 => fun _ => some ([], 0)
  | n + 1 => seqP fieldP (fun _ => fieldsP n) (fun f fs => f :: fs)
noncomputable def clsP : Prs Cl := seqP textP (fun t => seqP sizeP (fun n => fieldsP n) (fun _ fs => fs)) (fun t fs => ⟨⟨t.toArray⟩, fs⟩)
/-- the class ahead in a list of bytes -/
noncomputable def decC : Prs Cl := fun l => match clsP l with
  | none => none
  | some x => if x.1.ok = true then some x else none
theorem undo_field (f : Fl) (h : f.nm.size ≤ 10000) (hk : Wire.inRange f.k) (ho : Wire.inRange f.o) : Undo fieldP f.bytes f := by
  have h1 := undo_text (t := f.nm.data.toList) (by rw [nm_size]; exact h)
  have h2a := (undo_num ho).seq (Q := fun _ => ixP) (undo_ix f.ix) (fun o b => (o, b))
  have h2 := (undo_num hk).seq (Q := fun _ => seqP numP (fun _ => ixP) (fun o b => (o, b))) h2a (fun k ob => (k, ob))
  have h3 := h1.seq (Q := fun _ => seqP numP (fun k => seqP numP (fun o => ixP) (fun o b => (o, b))) (fun k ob => (k, ob))) h2 (fun t x => (⟨⟨t.toArray⟩, x.1, x.2.1, x.2.2⟩ : Fl))
  rw [nm_size, text_back] at h3
  have e : f.bytes = Wire.num f.nm.size ++ f.nm.data.toList ++ (Wire.num f.k ++ (Wire.num f.o ++ Wire.num (if f.ix then 1 else 0))) := by unfold Fl.bytes txtB; simp
  rw [e]
  exact h3
theorem undo_fields : ∀ (fs : List Fl), (∀ f ∈ fs, f.nm.size ≤ 10000 ∧ Wire.inRange f.k ∧ Wire.inRange f.o) → Undo (fieldsP fs.length) (fs.flatMap Fl.bytes) fs
  | [], _ => ⟨fun r => rfl, fun k hk => by simp at hk⟩
  | f :: fs, h => by
    have hf := h f List.mem_cons_self
    have := (undo_field f hf.1 hf.2.1 hf.2.2).seq (Q := fun _ => fieldsP fs.length) (undo_fields fs (fun g hg => h g (List.mem_cons_of_mem _ hg))) (fun f fs => f :: fs)
    rw [List.flatMap_cons]
    exact this
theorem undo_cls (c : Cl) (h : c.ok = true) : Undo clsP c.bytes c := by
  obtain ⟨h1, h2, h3⟩ := Cl.ok_parts h
  have hf : ∀ f ∈ c.fs, f.nm.size ≤ 10000 ∧ Wire.inRange f.k ∧ Wire.inRange f.o := fun f hf => by
    obtain ⟨i, hi, rfl⟩ := List.getElem_of_mem hf
    obtain ⟨a1, a2, _, _, a3, a4⟩ := Fl.ok_parts (h3 i hi).1
    exact ⟨by omega, ⟨by omega, by omega⟩, ⟨by omega, by omega⟩⟩
  have t1 := undo_text (t := c.nm.data.toList) (by rw [nm_size]; omega)
  have t2 := (undo_size h2).seq (Q := fun n => fieldsP n) (undo_fields c.fs hf) (fun _ fs => fs)
  have t3 := t1.seq (Q := fun _ => seqP sizeP (fun n => fieldsP n) (fun _ fs => fs)) t2 (fun t fs => (⟨⟨t.toArray⟩, fs⟩ : Cl))
  rw [nm_size, text_back] at t3
  have e : c.bytes = Wire.num c.nm.size ++ c.nm.data.toList ++ (Wire.num c.fs.length ++ c.fs.flatMap Fl.bytes) := by unfold Cl.bytes txtB; simp
  rw [e]
  exact t3
theorem undo_dec (c : Cl) (h : c.ok = true) : Undo decC c.bytes c := by
  have hu := undo_cls c h
  refine ⟨fun r => ?_, fun k hk => ?_⟩
  · unfold decC
    rw [hu.app]
    simp only
    rw [if_pos h]
  · unfold decC
    rw [hu.cut k hk]
/-- unlike classes have unlike bytes -/
theorem cls_inj {c d : Cl} (hc : c.ok = true) (hd : d.ok = true) (h : c.bytes = d.bytes) : c = d := by
  have h1 := (undo_dec c hc).app []
  have h2 := (undo_dec d hd).app []
  rw [h, h2] at h1
  have := Option.some.inj h1
  exact (congrArg Prod.fst this).symm
end Go.Proofs.YtffoklhopmhjaaaGreatDoor

/- Of raw numbers, a class that may be. -/
import Derived.Test.YtffoklhopmhjaaaGreatDoorClsPrs
import Derived.Test.YtffoklhopmhjaaaGreatDoorValRaw
set_option linter.unusedSimpArgs false
set_option linter.unusedVariables false
namespace Go.Proofs.YtffoklhopmhjaaaGreatDoor
open Go Go.RowKit Go.Shelf

/-- raw numbers of a field -/
structure FRaw where
  n : Int
  k : Int
  o : Int
  ix : Bool
abbrev FRaw.cells (r : FRaw) : List Value := [.int .i64 r.n, .int .i64 r.k, .int .i64 r.o, .bool r.ix]
structure FRaw.fine (r : FRaw) : Prop where
  n : -9223372036854775808 ≤ r.n ∧ r.n ≤ 9223372036854775807
  k : -9223372036854775808 ≤ r.k ∧ r.k ≤ 9223372036854775807
  o : -9223372036854775808 ≤ r.o ∧ r.o ≤ 9223372036854775807
def frawCells : List FRaw → List Value
  | [] => []
  | r :: l => r.cells ++ frawCells l
theorem frawCells_at : ∀ (l : List FRaw) (i : Nat) (h : i < l.length) (j : Nat) (v : Value), (l[i].cells)[j]? = some v → (frawCells l)[i * 4 + j]? = some v
  | f :: fs, 0, h, j, v, hv => by
    show (f.cells ++ frawCells fs)[0 * 4 + j]? = some v
    have hj : j < f.cells.length := (List.getElem?_eq_some_iff.1 hv).1
    rw [Nat.zero_mul, Nat.zero_add, List.getElem?_append_left hj]
    exact hv
  | f :: fs, i + 1, h, j, v, hv => by
    show (f.cells ++ frawCells fs)[(i + 1) * 4 + j]? = some v
    rw [List.getElem?_append_right (by simp; omega), show (i + 1) * 4 + j - f.cells.length = i * 4 + j from by simp; omega]
    exact frawCells_at fs i (by simpa using h) j v hv
/-- raw numbers of a class -/
structure CRaw where
  n : Int
  l : List FRaw
structure CRaw.fine (x : CRaw) : Prop where
  n : -9223372036854775808 ≤ x.n ∧ x.n ≤ 9223372036854775807
  len : x.l.length ≤ 9223372036854775807
  l : ∀ r ∈ x.l, r.fine

/-- a, b2, name, next_one, kids, x -/
def fNames : List (List UInt8) := [[97], [98, 50], [110, 97, 109, 101], [110, 101, 120, 116, 95, 111, 110, 101], [107, 105, 100, 115], [120]]
/-- node, item, user, page_1, leaf, q -/
def cNames : List (List UInt8) := [[110, 111, 100, 101], [105, 116, 101, 109], [117, 115, 101, 114], [112, 97, 103, 101, 95, 49], [108, 101, 97, 102], [113]]
def nameIn (l : List (List UInt8)) (i : Int) : ByteArray := ⟨(l.getD i.toNat []).toArray⟩
def fldOf (r : FRaw) : Fl := ⟨nameIn fNames (pickI r.n 6), 1 + pickI r.k 5, if 1 + pickI r.k 5 = 5 then 1 + pickI r.o 4 else 0, r.ix && decide (1 + pickI r.k 5 ≤ 3)⟩
def addF (fs : List Fl) (f : Fl) : List Fl := if fieldAt fs f.nm = none then fs ++ [f] else fs
def fldsTo (l : List FRaw) (n : Nat) : List Fl := (l.take n).foldl (fun fs r => addF fs (fldOf r)) []
def clsOf (x : CRaw) : Cl := ⟨nameIn cNames (pickI x.n 6), fldsTo x.l 6⟩
theorem fldsTo_succ (l : List FRaw) (n : Nat) (h : n < l.length) : fldsTo l (n + 1) = addF (fldsTo l n) (fldOf l[n]) := by
  unfold fldsTo
  rw [List.take_succ_eq_append_getElem h, List.foldl_append]
  rfl
theorem fldsTo_end (l : List FRaw) (n : Nat) (h : l.length ≤ n) (hn : n ≤ 6) : fldsTo l n = fldsTo l 6 := by
  unfold fldsTo
  rw [List.take_of_length_le h, List.take_of_length_le (by omega)]

theorem nameIn_ok {l : List (List UInt8)} (hl : l.all nmOk = true) {i : Int} (h0 : 0 ≤ i) (h1 : i < l.length) : nmOk (nameIn l i).data.toList = true := by
  unfold nameIn
  have hi : i.toNat < l.length := by omega
  have e : l.getD i.toNat [] = l[i.toNat] := by rw [List.getD_eq_getElem?_getD, List.getElem?_eq_getElem hi]; rfl
  rw [e]
  exact List.all_eq_true.1 hl _ (List.getElem_mem hi)
theorem fNames_ok : fNames.all nmOk = true := by decide
theorem cNames_ok : cNames.all nmOk = true := by decide
theorem fldOf_ok (r : FRaw) : (fldOf r).ok = true := by
  have h6 := pickI_bd r.n 6 (by decide)
  have h5 := pickI_bd r.k 5 (by decide)
  have h4 := pickI_bd r.o 4 (by decide)
  unfold Fl.ok fldOf
  rw [nameIn_ok fNames_ok h6.1 (by simpa [fNames] using h6.2)]
  simp only [Bool.true_and, Bool.and_eq_true]
  refine ⟨?_, ?_⟩
  · unfold rtB
    by_cases h : 1 + pickI r.k 5 = 5
    · rw [if_pos h, if_pos h]; exact decide_eq_true (by omega)
    · rw [if_neg h, if_neg h]; exact decide_eq_true ⟨by omega, rfl⟩
  · cases r.ix with
    | false => rfl
    | true =>
      by_cases h : 1 + pickI r.k 5 ≤ 3
      · rw [decide_eq_true h]
        show (!true || mayIx (1 + pickI r.k 5)) = true
        unfold mayIx
        rw [decide_eq_true (show _ from by omega)]; rfl
      · rw [decide_eq_false h]; rfl

/-- fields that may be, each found by its own name -/
def GoodL (fs : List Fl) : Prop := ∀ i (h : i < fs.length), fs[i].ok = true ∧ fieldAt fs fs[i].nm = some i
theorem goodL_nil : GoodL [] := fun i h => absurd h (by simp)
theorem goodL_add {fs : List Fl} {f : Fl} (h : GoodL fs) (hf : f.ok = true) : GoodL (addF fs f) := by
  unfold addF
  split
  · rename_i hn
    intro i hi
    rcases Nat.lt_or_ge i fs.length with hl | hl
    · rw [List.getElem_append_left hl]
      refine ⟨(h i hl).1, ?_⟩
      have h2 := (h i hl).2
      unfold fieldAt at h2 ⊢
      rw [List.findIdx?_append, h2]; rfl
    · have e : i = fs.length := by simp at hi; omega
      subst e
      have eg : (fs ++ [f])[fs.length] = f := by simp
      rw [eg]
      refine ⟨hf, ?_⟩
      unfold fieldAt at hn ⊢
      rw [List.findIdx?_append, hn]
      simp
  · exact h
theorem addF_len (fs : List Fl) (f : Fl) : (addF fs f).length ≤ fs.length + 1 := by
  unfold addF
  split
  · simp
  · omega
theorem fldsTo_good (l : List FRaw) : ∀ n, GoodL (fldsTo l n) ∧ (fldsTo l n).length ≤ n
  | 0 => ⟨goodL_nil, by simp [fldsTo]⟩
  | n + 1 => by
    have ih := fldsTo_good l n
    rcases Nat.lt_or_ge n l.length with h | h
    · rw [fldsTo_succ l n h]
      exact ⟨goodL_add ih.1 (fldOf_ok _), Nat.le_trans (addF_len _ _) (by omega)⟩
    · have e : fldsTo l (n + 1) = fldsTo l n := by unfold fldsTo; rw [List.take_of_length_le h, List.take_of_length_le (by omega)]
      rw [e]
      exact ⟨ih.1, by omega⟩
theorem cls_ok_of {nm : ByteArray} {fs : List Fl} (hn : nmOk nm.data.toList = true) (hl : fs.length ≤ 8) (h : GoodL fs) : (Cl.mk nm fs).ok = true := by
  unfold Cl.ok
  rw [Bool.and_eq_true, Bool.and_eq_true]
  refine ⟨⟨hn, decide_eq_true hl⟩, List.all_eq_true.2 (fun i hi => ?_)⟩
  have hi := List.mem_range.1 hi
  rw [goodAt_of hi, (h i hi).1, (h i hi).2]
  simp
theorem clsOf_ok (x : CRaw) : (clsOf x).ok = true := by
  have h6 := pickI_bd x.n 6 (by decide)
  have h := fldsTo_good x.l 6
  exact cls_ok_of (nameIn_ok cNames_ok h6.1 (by simpa [cNames] using h6.2)) (by omega) h.1
end Go.Proofs.YtffoklhopmhjaaaGreatDoor

/- Classes as they are: names, fields, which may be, their bytes; how they lie. -/
import Derived.Test.YtffoklhopmhjaaaGreatDoorValDec
import Derived.Test.YtffoklhopmhjaaaGreatDoorValFits
set_option linter.unusedSimpArgs false
set_option linter.unusedVariables false
namespace Go.Proofs.YtffoklhopmhjaaaGreatDoor
open Go Go.RowKit Go.Shelf

def isLet (c : UInt8) : Bool := decide (97 ≤ c.toNat ∧ c.toNat ≤ 122)
def inNm (c : UInt8) : Bool := decide ((97 ≤ c.toNat ∧ c.toNat ≤ 122) ∨ (48 ≤ c.toNat ∧ c.toNat ≤ 57) ∨ c.toNat = 95)
/-- may a name be -/
def nmOk (l : List UInt8) : Bool := decide (1 ≤ l.length ∧ l.length ≤ 20) && (match l with | [] => false | c :: _ => isLet c) && l.all inNm
theorem nmOk_len {l : List UInt8} (h : nmOk l = true) : 1 ≤ l.length ∧ l.length ≤ 20 := by
  unfold nmOk at h
  rw [Bool.and_eq_true, Bool.and_eq_true] at h
  exact of_decide_eq_true h.1.1

/-- a field -/
structure Fl where
  nm : ByteArray
  k : Int
  o : Int
  ix : Bool
abbrev Fl.cells (f : Fl) : List Value := [.string f.nm, .int .i64 f.k, .int .i64 f.o, .bool f.ix]
abbrev Fl.v (f : Fl) : Value := .agg #[.string f.nm, .int .i64 f.k, .int .i64 f.o, .bool f.ix]
def Fl.fine (f : Fl) : Prop := f.nm.size ≤ 9223372036854775807 ∧ (-9223372036854775808 ≤ f.k ∧ f.k ≤ 9223372036854775807) ∧ (-9223372036854775808 ≤ f.o ∧ f.o ≤ 9223372036854775807)
def flCells : List Fl → List Value
  | [] => []
  | f :: fs => f.cells ++ flCells fs
theorem flCells_length : ∀ fs : List Fl, (flCells fs).length = fs.length * 4
  | [] => rfl
  | f :: fs => by
    show (f.cells ++ flCells fs).length = _
    rw [List.length_append, flCells_length fs]; simp; omega
theorem flCells_append (a b : List Fl) : flCells (a ++ b) = flCells a ++ flCells b := by
  induction a with
  | nil => rfl
  | cons f a ih => show f.cells ++ flCells (a ++ b) = (f.cells ++ flCells a) ++ flCells b; rw [ih, List.append_assoc]
theorem flCells_at : ∀ (fs : List Fl) (i : Nat) (h : i < fs.length) (j : Nat) (v : Value), (fs[i].cells)[j]? = some v → (flCells fs)[i * 4 + j]? = some v
  | f :: fs, 0, h, j, v, hv => by
    show (f.cells ++ flCells fs)[0 * 4 + j]? = some v
    have hj : j < f.cells.length := (List.getElem?_eq_some_iff.1 hv).1
    rw [Nat.zero_mul, Nat.zero_add, List.getElem?_append_left hj]
    exact hv
  | f :: fs, i + 1, h, j, v, hv => by
    show (f.cells ++ flCells fs)[(i + 1) * 4 + j]? = some v
    rw [List.getElem?_append_right (by simp; omega), show (i + 1) * 4 + j - f.cells.length = i * 4 + j from by simp; omega]
    exact flCells_at fs i (by simpa using h) j v hv
theorem flCells_one : ∀ (fs : List Fl), ∀ u ∈ flCells fs, u.oneCell' = true
  | [], u, hu => by cases hu
  | f :: fs, u, hu => by
    have hu' : u ∈ f.cells ++ flCells fs := hu
    rcases List.mem_append.1 hu' with h | h
    · simp only [Fl.cells, List.mem_cons, List.mem_nil_iff, or_false] at h
      rcases h with rfl | rfl | rfl | rfl <;> rfl
    · exact flCells_one fs u h

/-- a class -/
structure Cl where
  nm : ByteArray
  fs : List Fl
/-- fields lie -/
def FLies (W : World) (p : Option Addr) (m c : Nat) (fs : List Fl) : Prop := m = fs.length ∧ Lies W (.slice p fs.length c) fs.length 4 (flCells fs)
theorem FLies.below {W W' : World} {p : Option Addr} {m c : Nat} {fs : List Fl} (h : FLies W p m c fs) (hb : Below W.heap.size W W') : FLies W' p m c fs := ⟨h.1, h.2.below hb⟩
/-- a class lies in a value -/
abbrev clV (nm : ByteArray) (p : Option Addr) (m c : Nat) : Value := .agg #[.string nm, .slice p m c]
/-- where a field of that name stands first -/
def fieldAt (fs : List Fl) (nm : ByteArray) : Option Nat := fs.findIdx? (fun f => f.nm.toList == nm.toList)
def mayIx (k : Int) : Bool := decide (k = 1 ∨ k = 2 ∨ k = 3)
def Fl.ok (f : Fl) : Bool := nmOk f.nm.data.toList && rtB f.k f.o && (!f.ix || mayIx f.k)
def goodAt (fs : List Fl) (i : Nat) : Bool := match fs[i]? with
  | none => true
  | some f => f.ok && (fieldAt fs f.nm == some i)
/-- may a class be -/
def Cl.ok (c : Cl) : Bool := nmOk c.nm.data.toList && decide (c.fs.length ≤ 8) && (List.range c.fs.length).all (goodAt c.fs)
theorem goodAt_of {fs : List Fl} {i : Nat} (h : i < fs.length) : goodAt fs i = (fs[i].ok && (fieldAt fs fs[i].nm == some i)) := by
  unfold goodAt
  rw [List.getElem?_eq_getElem h]
theorem fieldAt_lt {fs : List Fl} {nm : ByteArray} {i : Nat} (h : fieldAt fs nm = some i) : i < fs.length := by
  unfold fieldAt at h
  obtain ⟨h1, _⟩ := List.findIdx?_eq_some_iff_getElem.1 h
  exact h1
theorem fieldAt_some {fs : List Fl} {nm : ByteArray} {i : Nat} (h : i < fs.length) (h1 : fs[i].nm.toList = nm.toList) (h2 : ∀ j (hj : j < i), fs[j].nm.toList ≠ nm.toList) : fieldAt fs nm = some i := by
  unfold fieldAt
  rw [List.findIdx?_eq_some_iff_getElem]
  exact ⟨h, by simpa using h1, fun j hj => by simpa using h2 j hj⟩
theorem fieldAt_none {fs : List Fl} {nm : ByteArray} (h : ∀ i (hi : i < fs.length), fs[i].nm.toList ≠ nm.toList) : fieldAt fs nm = none := by
  unfold fieldAt
  rw [List.findIdx?_eq_none_iff]
  intro x hx
  obtain ⟨i, hi, rfl⟩ := List.getElem_of_mem hx
  simpa using h i hi

/-- a name's bytes -/
def txtB (s : ByteArray) : List UInt8 := Wire.num s.size ++ s.data.toList
def Fl.bytes (f : Fl) : List UInt8 := txtB f.nm ++ Wire.num f.k ++ Wire.num f.o ++ Wire.num (if f.ix then 1 else 0)
def Cl.bytes (c : Cl) : List UInt8 := txtB c.nm ++ Wire.num c.fs.length ++ c.fs.flatMap Fl.bytes
theorem nm_size (s : ByteArray) : s.data.toList.length = s.size := by simp
theorem Fl.ok_parts {f : Fl} (h : f.ok = true) : 1 ≤ f.nm.size ∧ f.nm.size ≤ 20 ∧ nmOk f.nm.data.toList = true ∧ rtB f.k f.o = true ∧ (1 ≤ f.k ∧ f.k ≤ 5) ∧ (0 ≤ f.o ∧ f.o ≤ 4) := by
  unfold Fl.ok at h
  rw [Bool.and_eq_true, Bool.and_eq_true] at h
  have h1 := nmOk_len h.1.1
  rw [nm_size] at h1
  have hr := h.1.2
  refine ⟨h1.1, h1.2, h.1.1, hr, ?_⟩
  unfold rtB at hr
  split at hr
  · have := of_decide_eq_true hr; omega
  · have := of_decide_eq_true hr; omega
theorem Cl.ok_parts {c : Cl} (h : c.ok = true) : (1 ≤ c.nm.size ∧ c.nm.size ≤ 20) ∧ c.fs.length ≤ 8 ∧ ∀ i (hi : i < c.fs.length), c.fs[i].ok = true ∧ fieldAt c.fs c.fs[i].nm = some i := by
  unfold Cl.ok at h
  rw [Bool.and_eq_true, Bool.and_eq_true] at h
  have h1 := nmOk_len h.1.1
  rw [nm_size] at h1
  refine ⟨h1, of_decide_eq_true h.1.2, fun i hi => ?_⟩
  have h2 := List.all_eq_true.1 h.2 i (List.mem_range.2 hi)
  rw [goodAt_of hi, Bool.and_eq_true, beq_iff_eq] at h2
  exact h2
end Go.Proofs.YtffoklhopmhjaaaGreatDoor

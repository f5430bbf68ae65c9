/- Values as they are: which may be, and their bytes; val.Right of a value. -/
import Derived.Test.YtffoklhopmhjaaaGreatDoorValCompare
import Derived.Test.YtffoklhopmhjaaaGreatDoorValLayL
set_option linter.unusedSimpArgs false
set_option linter.unusedVariables false
namespace Go.Proofs.YtffoklhopmhjaaaGreatDoor
open Go Go.RowKit Go.Shelf

/-- of a value that is no list -/
def V.flatOk (v : V) : Bool := Go.Proofs.YtffoklhopmhjaaaGreatDoor.flatOk v.k v.n v.s v.l.length
def V.okIn (u : V) : Bool := !(u.k == 5) && u.flatOk
def V.ok (v : V) : Bool := if v.k = 5 then decide (v.n = 0 ∧ v.s.size = 0) && (decide (v.l.length ≤ 12) && v.l.all V.okIn) else v.flatOk
def V.bytesIn (u : V) : List UInt8 := flatBytes u.k u.n u.s
def V.bytes (v : V) : List UInt8 := if v.k = 5 then Wire.num 5 ++ Wire.num v.l.length ++ v.l.flatMap V.bytesIn else v.bytesIn

theorem VIn.same {d : Nat} {W : World} {u : V} {y : It} (h : VIn d W u y) : y.k = u.k ∧ y.n = u.n ∧ y.s = u.s ∧ y.m = u.l.length ∧ u.fine := by
  cases d with
  | zero => exact h.elim
  | succ d => have t := VAt.top h; exact ⟨t.2.1, t.2.2.1, t.2.2.2.1, t.len, t.1⟩

theorem items_map {α : Type} (f : It → α) (g : V → α) {ys : List It} {l : List V} (hl : ys.length = l.length) (h : ∀ (i : Nat) (h : i < ys.length) (h' : i < l.length), f ys[i] = g l[i]) : ys.map f = l.map g := by
  apply List.ext_getElem
  · simp [hl]
  · intro i h1 h2
    simp only [List.getElem_map]
    exact h i (by simpa using h1) (by simpa using h2)

theorem itemsBytes_map (ys : List It) : itemsBytes ys = (ys.map (fun y => flatBytes y.k y.n y.s)).flatten := by
  induction ys with
  | nil => rfl
  | cons y ys ih => show flatBytes y.k y.n y.s ++ itemsBytes ys = _; rw [ih]; simp

theorem items_of {d : Nat} {W : World} {v : V} {x : It} (hx : VAt d W v x) : x.k = v.k ∧ x.n = v.n ∧ x.s = v.s ∧ x.m = v.l.length ∧ ∃ ys : List It, ys.length = v.l.length ∧ Lies W (.slice x.p x.m x.c) ys.length 4 (itsCells ys) ∧ rightOf x ys = v.ok ∧ itemsBytes ys = v.l.flatMap V.bytesIn ∧ (∀ y ∈ ys, y.s.size ≤ 9223372036854775807) ∧ (∀ y ∈ ys, ∃ u ∈ v.l, y.k = u.k ∧ y.n = u.n ∧ y.s = u.s ∧ y.m = u.l.length ∧ u.fine) := by
  have t := hx.top
  have hm := t.len
  obtain ⟨hf, h1, h2, h3, ys, h4, h5, h6⟩ := t
  refine ⟨h1, h2, h3, hm, ys, h4, h5, ?_, ?_, ?_, ?_⟩
  · unfold rightOf V.ok
    rw [h1, h2, h3, hm]
    have e : ys.all itemOk = v.l.all V.okIn := by
      have : ys.map itemOk = v.l.map V.okIn := items_map _ _ h4 (fun i a b => by
        obtain ⟨e1, e2, e3, e4, _⟩ := (h6 i a b).same
        unfold itemOk V.okIn V.flatOk
        rw [e1, e2, e3, e4])
      have g : ∀ (ys : List It), ys.all itemOk = (ys.map itemOk).all id := fun ys => by rw [List.all_map]; rfl
      have g' : ∀ (us : List V), us.all V.okIn = (us.map V.okIn).all id := fun us => by rw [List.all_map]; rfl
      rw [g, g', this]
    unfold listOk
    rw [e, h4]
    rfl
  · rw [itemsBytes_map, List.flatMap_def]
    congr 1
    exact items_map _ _ h4 (fun i a b => by
      obtain ⟨e1, e2, e3, e4, _⟩ := (h6 i a b).same
      unfold V.bytesIn
      rw [e1, e2, e3])
  · intro y hy
    obtain ⟨i, hi, rfl⟩ := List.getElem_of_mem hy
    obtain ⟨e1, e2, e3, e4, e5⟩ := (h6 i hi (by omega)).same
    rw [e3]; exact e5.s
  · intro y hy
    obtain ⟨i, hi, rfl⟩ := List.getElem_of_mem hy
    exact ⟨v.l[i]'(by omega), List.getElem_mem _, (h6 i hi (by omega)).same⟩

/-- val.Right, of any value that lies -/
theorem right_V (d : Nat) (v : V) (x : It) (w : World) (hx : VAt d w v x) (hT : Tabs w) :
    Calls Tryz.prog 25 #[x.v] w fun e w' => e = .returned (.bool v.ok) ∧ Below w.heap.size w w' := by
  obtain ⟨h1, h2, h3, h4, ys, h5, h6, h7, h8, h9, _⟩ := items_of hx
  rw [← h7]
  exact right_any x ys (by rw [h3]; exact hx.top.1.s) h9 w hT (fun _ => ⟨by omega, h6⟩)

theorem flatBytes_len {k n : Int} {s : ByteArray} (hk : Wire.inRange k) (hn : Wire.inRange n) (hs : s.size ≤ 10000) : (flatBytes k n s).length ≤ 10020 := by
  have h1 := Wire.num_len k hk
  have h2 := Wire.num_len n hn
  have h3 := Wire.num_len (s.size : Int) ⟨by omega, by omega⟩
  have h4 : s.data.toList.length = s.size := by simp
  unfold flatBytes
  rw [List.length_append]
  split
  · omega
  · split
    · rw [List.length_append, h4]; omega
    · simp; omega

theorem okIn_parts {u : V} (h : u.okIn = true) : u.k ≠ 5 ∧ u.flatOk = true := by
  unfold V.okIn at h
  simp at h
  exact ⟨by simpa using h.1, h.2⟩
theorem flatOk_parts {k n : Int} {s : ByteArray} {m : Nat} (h : flatOk k n s m = true) : (0 ≤ k ∧ k ≤ 4) ∧ s.size ≤ 60 ∧ m = 0 ∧ (-1000000000000000 ≤ n ∧ n ≤ 1000000000000000) := by
  unfold flatOk at h
  split at h
  · have := of_decide_eq_true h; omega
  · split at h
    · have := of_decide_eq_true h; omega
    · split at h
      · have := of_decide_eq_true h; omega
      · split at h
        · have := of_decide_eq_true h; omega
        · cases h

theorem data_of_size0 {s : ByteArray} (h : s.size = 0) : s = ⟨#[]⟩ := by
  apply ByteArray.ext
  exact Array.eq_empty_of_size_eq_zero h
theorem text_len (s : ByteArray) : s.data.toList.length = s.size := by simp
theorem text_back (s : ByteArray) : (⟨s.data.toList.toArray⟩ : ByteArray) = s := by apply ByteArray.ext; simp

theorem ok_list {v : V} (h : v.ok = true) (h5 : v.k = 5) : v = .mk 5 0 ⟨#[]⟩ v.l ∧ v.l.length ≤ 12 ∧ ∀ u ∈ v.l, u.okIn = true := by
  unfold V.ok at h
  rw [if_pos h5, Bool.and_eq_true, Bool.and_eq_true] at h
  obtain ⟨a, b, c⟩ := h
  have a := of_decide_eq_true a
  refine ⟨?_, of_decide_eq_true b, List.all_eq_true.1 c⟩
  obtain ⟨k, n, s, l⟩ := v
  simp only [V.k, V.n, V.s, V.l] at *
  rw [h5, a.1, data_of_size0 a.2]
theorem ok_flat {v : V} (h : v.ok = true) (h5 : v.k ≠ 5) : v.flatOk = true := by
  unfold V.ok at h
  rw [if_neg h5] at h
  exact h

end Go.Proofs.YtffoklhopmhjaaaGreatDoor

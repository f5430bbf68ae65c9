/- A class with one thing turned: a field twice, a name longer by a byte, an index over lists. -/
import Derived.Test.YtffoklhopmhjaaaGreatDoorClsRaw
set_option linter.unusedSimpArgs false
set_option linter.unusedVariables false
namespace Go.Proofs.YtffoklhopmhjaaaGreatDoor
open Go Go.RowKit Go.Shelf

theorem ba_eq_of {s t : ByteArray} (h : s.toList = t.toList) : s = t := by
  rw [Lib.toList_data, Lib.toList_data] at h
  apply ByteArray.ext
  exact Array.toList_inj.1 h
theorem good_of_ok {c : Cl} (h : c.ok = true) : GoodL c.fs := fun i hi => (Cl.ok_parts h).2.2 i hi
theorem goodL_apart {fs : List Fl} (h : GoodL fs) {i j : Nat} (hi : i < fs.length) (hj : j < fs.length) (he : fs[i].nm = fs[j].nm) : i = j := by
  have h1 := (h i hi).2
  have h2 := (h j hj).2
  rw [he] at h1
  rw [h1] at h2
  exact Option.some.inj h2
theorem goodL_of {fs : List Fl} (h1 : ∀ i (h : i < fs.length), fs[i].ok = true) (h2 : ∀ i j (hi : i < fs.length) (hj : j < fs.length), fs[i].nm = fs[j].nm → i = j) : GoodL fs := fun i hi =>
  ⟨h1 i hi, fieldAt_some hi rfl (fun j hj e => by
    have := h2 j i (by omega) hi (ba_eq_of e)
    omega)⟩
theorem not_ok_of {nm : ByteArray} {fs : List Fl} (h : ¬ GoodL fs) : (Cl.mk nm fs).ok = false := by
  cases hc : (Cl.mk nm fs).ok with
  | false => rfl
  | true => exact absurd (good_of_ok hc) h
theorem twice_bad (nm : ByteArray) {fs : List Fl} (h : GoodL fs) (k : Nat) (hk : k < fs.length) (f : Fl) (hf : f.nm = fs[k].nm) : (Cl.mk nm (fs ++ [f])).ok = false := by
  refine not_ok_of (fun hg => ?_)
  have := goodL_apart hg (i := k) (j := fs.length) (by simp; omega) (by simp) (by rw [List.getElem_append_left hk]; simp [hf])
  omega
theorem set_at {fs : List Fl} {k : Nat} (hk : k < fs.length) (g : Fl) (i : Nat) (hi : i < (fs.set k g).length) : (fs.set k g)[i] = if i = k then g else fs[i]'(by simpa using hi) := by
  rw [List.getElem_set]
  by_cases h : k = i
  · rw [if_pos h, if_pos h.symm]
  · rw [if_neg h, if_neg (fun e => h e.symm)]
theorem bad_field (nm : ByteArray) {fs : List Fl} (k : Nat) (hk : k < fs.length) (h : fs[k].ok = false) : (Cl.mk nm fs).ok = false :=
  not_ok_of (fun hg => by have := (hg k hk).1; rw [h] at this; cases this)
/-- a field that keeps its name -/
theorem same_name {nm : ByteArray} (hn : nmOk nm.data.toList = true) {fs : List Fl} (h : GoodL fs) (hl : fs.length ≤ 8) (k : Nat) (hk : k < fs.length) (g : Fl) (hg : g.ok = true) (he : g.nm = fs[k].nm) : (Cl.mk nm (fs.set k g)).ok = true := by
  have hnm : ∀ i (hi : i < (fs.set k g).length), (fs.set k g)[i].nm = (fs[i]'(by simpa using hi)).nm := fun i hi => by
    rw [set_at hk g i hi]
    split
    · rename_i e; subst e; exact he
    · rfl
  refine cls_ok_of hn (by simpa using hl) (goodL_of (fun i hi => ?_) (fun i j hi hj e => ?_))
  · rw [set_at hk g i hi]
    split
    · exact hg
    · exact (h i (by simpa using hi)).1
  · rw [hnm i hi, hnm j hj] at e
    exact goodL_apart h _ _ e
/-- a field of another name -/
theorem other_name {nm : ByteArray} (hn : nmOk nm.data.toList = true) {fs : List Fl} (h : GoodL fs) (hl : fs.length ≤ 8) (k : Nat) (hk : k < fs.length) (g : Fl) (hne : g.nm ≠ fs[k].nm) :
    (Cl.mk nm (fs.set k g)).ok = (g.ok && (fieldAt fs g.nm).isNone) := by
  have hk' : k < (fs.set k g).length := by simpa using hk
  cases hg : g.ok with
  | false => exact bad_field nm k hk' (by rw [set_at hk g k hk', if_pos rfl]; exact hg)
  | true =>
    cases hf : fieldAt fs g.nm with
    | some j =>
      show _ = false
      refine not_ok_of (fun hgl => ?_)
      have hj := fieldAt_lt hf
      have hjn : fs[j].nm = g.nm := by
        unfold fieldAt at hf
        have := (List.findIdx?_eq_some_iff_getElem.1 hf).2.1
        exact ba_eq_of (by simpa using this)
      have hjk : j ≠ k := fun e => by subst e; exact hne hjn.symm
      have := goodL_apart hgl (i := j) (j := k) (by simpa using hj) hk' (by rw [set_at hk g j (by simpa using hj), set_at hk g k hk', if_neg hjk, if_pos rfl]; exact hjn)
      exact hjk this
    | none =>
      show _ = true
      have hno : ∀ i (hi : i < fs.length), fs[i].nm ≠ g.nm := fun i hi e => by
        unfold fieldAt at hf
        rw [List.findIdx?_eq_none_iff] at hf
        have := hf fs[i] (List.getElem_mem hi)
        rw [e] at this
        simp at this
      refine cls_ok_of hn (by simpa using hl) (goodL_of (fun i hi => ?_) (fun i j hi hj e => ?_))
      · rw [set_at hk g i hi]
        split
        · exact hg
        · exact (h i (by simpa using hi)).1
      · have hi' : i < fs.length := by simpa using hi
        have hj' : j < fs.length := by simpa using hj
        rw [set_at hk g i hi, set_at hk g j hj] at e
        by_cases h1 : i = k
        · by_cases h2 : j = k
          · omega
          · rw [if_pos h1, if_neg h2] at e; exact absurd e.symm (hno j hj')
        · by_cases h2 : j = k
          · rw [if_neg h1, if_pos h2] at e; exact absurd e (hno i hi')
          · rw [if_neg h1, if_neg h2] at e; exact goodL_apart h hi' hj' e
theorem nmOk_snoc {l : List UInt8} (h : nmOk l = true) (hl : l.length ≤ 19) (b : UInt8) : nmOk (l ++ [b]) = inNm b := by
  unfold nmOk at h ⊢
  rw [Bool.and_eq_true, Bool.and_eq_true] at h
  obtain ⟨⟨h1, h2⟩, h3⟩ := h
  have h1 := of_decide_eq_true h1
  rw [List.all_append, h3, decide_eq_true (show 1 ≤ (l ++ [b]).length ∧ (l ++ [b]).length ≤ 20 by simp; omega)]
  match l, h2 with
  | c :: r, h2 => simp [h2]
theorem fld_name_len (r : FRaw) : (fldOf r).nm.size ≤ 8 := by
  have h6 := pickI_bd r.n 6 (by decide)
  show (nameIn fNames (pickI r.n 6)).size ≤ 8
  unfold nameIn
  have hi : (pickI r.n 6).toNat < fNames.length := by simp [fNames]; omega
  have e : fNames.getD (pickI r.n 6).toNat [] = fNames[(pickI r.n 6).toNat] := by rw [List.getD_eq_getElem?_getD, List.getElem?_eq_getElem hi]; rfl
  rw [e]
  have : fNames.all (fun l => decide (l.length ≤ 8)) = true := by decide
  have := of_decide_eq_true (List.all_eq_true.1 this _ (List.getElem_mem hi))
  rw [ba_size]
  exact this
theorem flds_name_len (l : List FRaw) : ∀ n, ∀ f ∈ fldsTo l n, f.nm.size ≤ 8
  | 0, f, h => by simp [fldsTo] at h
  | n + 1, f, h => by
    rcases Nat.lt_or_ge n l.length with hl | hl
    · rw [fldsTo_succ l n hl] at h
      unfold addF at h
      split at h
      · rcases List.mem_append.1 h with h | h
        · exact flds_name_len l n f h
        · rw [List.mem_singleton.1 h]; exact fld_name_len _
      · exact flds_name_len l n f h
    · have e : fldsTo l (n + 1) = fldsTo l n := by unfold fldsTo; rw [List.take_of_length_le hl, List.take_of_length_le (by omega)]
      rw [e] at h
      exact flds_name_len l n f h
end Go.Proofs.YtffoklhopmhjaaaGreatDoor

/- What bytes say of values: reading as a function, and that it undoes laying. -/
import Derived.Test.YtffoklhopmhjaaaGreatDoorValDef
import Derived.Test.YtffoklhopmhjaaaGreatDoorWireReadText
set_option linter.unusedSimpArgs false
set_option linter.unusedVariables false
namespace Go.Proofs.YtffoklhopmhjaaaGreatDoor
open Go Go.RowKit Go.Shelf

/-- the number ahead in a list of bytes -/
noncomputable def numL (l : List UInt8) : Option Int := open Classical in if h : ∃ v, Wire.inRange v ∧ Wire.num v <+: l then some h.choose else none
theorem numL_of {l : List UInt8} {v : Int} (hv : Wire.inRange v) (h : Wire.num v <+: l) : numL l = some v := by
  have hx : ∃ v, Wire.inRange v ∧ Wire.num v <+: l := ⟨v, hv, h⟩
  unfold numL
  rw [dif_pos hx]
  exact congrArg some (Wire.num_inj hx.choose_spec.1 hv hx.choose_spec.2 h)
theorem numL_none {l : List UInt8} (h : ∀ v, Wire.inRange v → ¬ Wire.num v <+: l) : numL l = none := by
  unfold numL
  rw [dif_neg]
  rintro ⟨v, a, b⟩
  exact h v a b
theorem numL_some {l : List UInt8} {v : Int} (h : numL l = some v) : Wire.inRange v ∧ Wire.num v <+: l := by
  unfold numL at h
  split at h
  · rename_i hx
    cases h
    exact hx.choose_spec
  · cases h
theorem numL_append {v : Int} (hv : Wire.inRange v) (r : List UInt8) : numL (Wire.num v ++ r) = some v := numL_of hv (List.prefix_append _ _)
theorem numL_cut {v : Int} (hv : Wire.inRange v) {k : Nat} (hk : k < (Wire.num v).length) : numL ((Wire.num v).take k) = none := by
  refine numL_none fun v' hv' h => ?_
  have h1 : Wire.num v' <+: Wire.num v := h.trans (List.take_prefix _ _)
  have h2 := Wire.num_inj hv' hv h1 (List.prefix_refl _)
  have h3 := h.length_le
  rw [h2, List.length_take] at h3
  omega
theorem numL_nil : numL [] = none := by
  refine numL_none fun v hv h => ?_
  obtain ⟨i, x, e, _⟩ := Wire.num_form v
  have := h.length_le
  rw [e] at this
  simp at this
/-- the text ahead -/
noncomputable def textL (l : List UInt8) : Option (List UInt8) := open Classical in if h : ∃ t : List UInt8, t.length ≤ 10000 ∧ (Wire.num t.length ++ t) <+: l then some h.choose else none
theorem text_inj {l t t' : List UInt8} (h0 : t.length ≤ 10000) (h : (Wire.num t.length ++ t) <+: l) (h0' : t'.length ≤ 10000) (h' : (Wire.num t'.length ++ t') <+: l) : t = t' := by
  have e : (t.length : Int) = (t'.length : Int) := Wire.num_inj ⟨by omega, by omega⟩ ⟨by omega, by omega⟩ ((List.prefix_append _ _).trans h) ((List.prefix_append _ _).trans h')
  obtain ⟨r, rfl⟩ := h
  rw [← e, List.append_assoc] at h'
  have h2 : t' <+: t ++ r := by
    obtain ⟨q, hq⟩ := h'
    rw [List.append_assoc] at hq
    exact ⟨q, List.append_cancel_left hq⟩
  obtain ⟨q, hq⟩ := h2
  exact ((List.append_inj hq (by omega)).1).symm
theorem textL_of {l t : List UInt8} (h0 : t.length ≤ 10000) (h : (Wire.num t.length ++ t) <+: l) : textL l = some t := by
  have hx : ∃ t : List UInt8, t.length ≤ 10000 ∧ (Wire.num t.length ++ t) <+: l := ⟨t, h0, h⟩
  unfold textL
  rw [dif_pos hx]
  exact congrArg some (text_inj hx.choose_spec.1 hx.choose_spec.2 h0 h)
theorem textL_none {l : List UInt8} (h : ∀ t : List UInt8, t.length ≤ 10000 → ¬ (Wire.num t.length ++ t) <+: l) : textL l = none := by
  unfold textL
  rw [dif_neg]
  rintro ⟨v, a, b⟩
  exact h v a b
theorem textL_some {l t : List UInt8} (h : textL l = some t) : t.length ≤ 10000 ∧ (Wire.num t.length ++ t) <+: l := by
  unfold textL at h
  split at h
  · rename_i hx
    cases h
    exact hx.choose_spec
  · cases h
theorem textL_append {t : List UInt8} (h0 : t.length ≤ 10000) (r : List UInt8) : textL (Wire.num t.length ++ t ++ r) = some t := textL_of h0 (List.prefix_append _ _)
theorem textL_cut {t : List UInt8} (h0 : t.length ≤ 10000) {k : Nat} (hk : k < (Wire.num t.length ++ t).length) : textL ((Wire.num t.length ++ t).take k) = none := by
  refine textL_none fun t' h0' h => ?_
  have h1 : (Wire.num t'.length ++ t') <+: (Wire.num t.length ++ t) := h.trans (List.take_prefix _ _)
  have h2 := text_inj h0' h1 h0 (List.prefix_refl _)
  have h3 := h.length_le
  rw [h2, List.length_take] at h3
  omega

/-- the flat value ahead: itself, and how many bytes it has; or the error -/
noncomputable def decIn (l : List UInt8) : Except Int (V × Nat) :=
  match numL l with
  | none => .error 10
  | some k =>
    if k = 1 ∨ k = 3 ∨ k = 4 then
      match numL (l.drop (Wire.num k).length) with
      | none => .error 10
      | some n => if flatOk k n ⟨#[]⟩ 0 = true then .ok (.mk k n ⟨#[]⟩ [], (Wire.num k).length + (Wire.num n).length) else .error 30
    else if k = 2 then
      match textL (l.drop (Wire.num k).length) with
      | none => .error 10
      | some t => if flatOk 2 0 ⟨t.toArray⟩ 0 = true then .ok (.mk 2 0 ⟨t.toArray⟩ [], (Wire.num k).length + ((Wire.num t.length).length + t.length)) else .error 30
    else if k = 0 then .ok (.mk 0 0 ⟨#[]⟩ [], (Wire.num k).length)
    else .error 30
noncomputable def decMany : Nat → List UInt8 → Except Int (List V × Nat)
  | 0, l => .ok ([], 0)
  | n + 1, l =>
    match decIn l with
    | .error e => .error e
    | .ok (u, q) =>
      match decMany n (l.drop q) with
      | .error e => .error e
      | .ok (us, r) => .ok (u :: us, q + r)
/-- the value ahead -/
noncomputable def decV (l : List UInt8) : Except Int (V × Nat) :=
  match numL l with
  | none => .error 10
  | some k =>
    if k = 5 then
      match numL (l.drop (Wire.num k).length) with
      | none => .error 10
      | some n =>
        if n < 0 ∨ 12 < n then .error 30
        else
          match decMany n.toNat (l.drop ((Wire.num k).length + (Wire.num n).length)) with
          | .error e => .error e
          | .ok (us, r) => .ok (.mk 5 0 ⟨#[]⟩ us, (Wire.num k).length + (Wire.num n).length + r)
    else decIn l

theorem flat_ways {u : V} (h : u.flatOk = true) : (u.k = 0 ∧ u = .mk 0 0 ⟨#[]⟩ []) ∨ ((u.k = 1 ∨ u.k = 3 ∨ u.k = 4) ∧ u = .mk u.k u.n ⟨#[]⟩ [] ∧ flatOk u.k u.n ⟨#[]⟩ 0 = true ∧ Wire.inRange u.n) ∨ (u.k = 2 ∧ u = .mk 2 0 u.s [] ∧ flatOk 2 0 u.s 0 = true ∧ u.s.size ≤ 60) := by
  have hp := flatOk_parts h
  obtain ⟨k, n, s, l⟩ := u
  have h' : flatOk k n s l.length = true := h
  obtain ⟨hk, hs, hl, hn⟩ := hp
  simp only [V.k, V.n, V.s, V.l] at hk hs hl hn ⊢
  obtain rfl : l = [] := List.eq_nil_of_length_eq_zero hl
  unfold flatOk at h'
  by_cases h0 : k = 0
  · rw [if_pos h0] at h'
    have := of_decide_eq_true h'
    exact .inl ⟨h0, by rw [h0, this.1, data_of_size0 this.2.1]⟩
  rw [if_neg h0] at h'
  by_cases h1 : k = 1
  · rw [if_pos h1] at h'
    have := of_decide_eq_true h'
    refine .inr (.inl ⟨.inl h1, by rw [data_of_size0 this.2.1], ?_, ⟨by omega, by omega⟩⟩)
    unfold flatOk
    rw [if_neg h0, if_pos h1]
    exact decide_eq_true ⟨this.1, rfl, rfl⟩
  rw [if_neg h1] at h'
  by_cases h2 : k = 2
  · rw [if_pos h2] at h'
    have := of_decide_eq_true h'
    refine .inr (.inr ⟨h2, by rw [h2, this.1], ?_, hs⟩)
    unfold flatOk
    rw [if_neg (by decide), if_neg (by decide), if_pos rfl]
    exact decide_eq_true ⟨rfl, this.2.1, rfl⟩
  rw [if_neg h2] at h'
  by_cases h3 : k = 3 ∨ k = 4
  · rw [if_pos h3] at h'
    have := of_decide_eq_true h'
    refine .inr (.inl ⟨.inr h3, by rw [data_of_size0 this.2.1], ?_, ⟨by omega, by omega⟩⟩)
    unfold flatOk
    rw [if_neg h0, if_neg h1, if_neg h2, if_pos h3]
    exact decide_eq_true ⟨this.1, rfl, rfl⟩
  rw [if_neg h3] at h'
  cases h'

theorem decIn_append (u : V) (h : u.flatOk = true) (r : List UInt8) : decIn (u.bytesIn ++ r) = .ok (u, u.bytesIn.length) := by
  rcases flat_ways h with ⟨h0, h1⟩ | ⟨h0, h1, h2, h3⟩ | ⟨h0, h1, h2, h3⟩
  · have e : u.bytesIn = Wire.num 0 := by
      unfold V.bytesIn flatBytes
      rw [h0, if_neg (by omega), if_neg (by omega), List.append_nil]
    rw [e]
    unfold decIn
    rw [numL_append ⟨by decide, by decide⟩]
    simp only
    rw [if_neg (by decide), if_neg (by decide), if_pos trivial, ← h1]
  · have hk : Wire.inRange u.k := by rcases h0 with h0 | h0 | h0 <;> rw [h0] <;> exact ⟨by decide, by decide⟩
    have e : u.bytesIn = Wire.num u.k ++ Wire.num u.n := by
      unfold V.bytesIn flatBytes
      rw [if_pos h0]
    rw [e, List.append_assoc]
    unfold decIn
    rw [numL_append hk]
    simp only
    rw [if_pos h0, List.drop_left, numL_append h3]
    simp only
    rw [if_pos h2, ← h1, List.length_append]
  · have e : u.bytesIn = Wire.num 2 ++ (Wire.num u.s.data.toList.length ++ u.s.data.toList) := by
      unfold V.bytesIn flatBytes
      rw [h0, if_neg (by decide), if_pos rfl, text_len]
    rw [e, List.append_assoc]
    unfold decIn
    rw [numL_append ⟨by decide, by decide⟩]
    simp only
    rw [if_neg (by decide), if_pos trivial, List.drop_left, textL_append (by rw [text_len]; omega)]
    simp only
    rw [text_back, if_pos h2, ← h1, List.length_append, List.length_append]

theorem take_of_append {α : Type} (a b : List α) (k : Nat) (h : k < (a ++ b).length) : (k < a.length ∧ (a ++ b).take k = a.take k) ∨ (a.length ≤ k ∧ k - a.length < b.length ∧ (a ++ b).take k = a ++ b.take (k - a.length)) := by
  rw [List.length_append] at h
  rcases Nat.lt_or_ge k a.length with h1 | h1
  · exact .inl ⟨h1, List.take_append_of_le_length (by omega)⟩
  · exact .inr ⟨h1, by omega, by rw [List.take_append, List.take_of_length_le h1]⟩

theorem decIn_cut (u : V) (h : u.flatOk = true) {k : Nat} (hk : k < u.bytesIn.length) : decIn (u.bytesIn.take k) = .error 10 := by
  rcases flat_ways h with ⟨h0, h1⟩ | ⟨h0, h1, h2, h3⟩ | ⟨h0, h1, h2, h3⟩
  · have e : u.bytesIn = Wire.num 0 := by
      unfold V.bytesIn flatBytes
      rw [h0, if_neg (by omega), if_neg (by omega), List.append_nil]
    rw [e] at hk ⊢
    unfold decIn
    rw [numL_cut ⟨by decide, by decide⟩ hk]
  · have hr : Wire.inRange u.k := by rcases h0 with h0 | h0 | h0 <;> rw [h0] <;> exact ⟨by decide, by decide⟩
    have e : u.bytesIn = Wire.num u.k ++ Wire.num u.n := by
      unfold V.bytesIn flatBytes
      rw [if_pos h0]
    rw [e] at hk ⊢
    unfold decIn
    rcases take_of_append _ _ k hk with ⟨a, b⟩ | ⟨a, b, c⟩
    · rw [b, numL_cut hr a]
    · rw [c, numL_append hr]
      simp only
      rw [if_pos h0, List.drop_left, numL_cut h3 b]
  · have e : u.bytesIn = Wire.num 2 ++ (Wire.num u.s.data.toList.length ++ u.s.data.toList) := by
      unfold V.bytesIn flatBytes
      rw [h0, if_neg (by decide), if_pos rfl, text_len]
    rw [e] at hk ⊢
    unfold decIn
    rcases take_of_append _ _ k hk with ⟨a, b⟩ | ⟨a, b, c⟩
    · rw [b, numL_cut ⟨by decide, by decide⟩ a]
    · rw [c, numL_append ⟨by decide, by decide⟩]
      simp only
      rw [if_neg (by decide), if_pos trivial, List.drop_left, textL_cut (by rw [text_len]; omega) b]

theorem decMany_succ (n : Nat) (l : List UInt8) : decMany (n + 1) l = (match decIn l with
    | .error e => .error e
    | .ok (u, q) =>
      match decMany n (l.drop q) with
      | .error e => .error e
      | .ok (us, r) => .ok (u :: us, q + r)) := rfl
theorem decMany_append : ∀ (us : List V), (∀ u ∈ us, u.flatOk = true) → ∀ r, decMany us.length (us.flatMap V.bytesIn ++ r) = .ok (us, (us.flatMap V.bytesIn).length)
  | [], _, r => rfl
  | u :: us, h, r => by
    rw [List.length_cons, decMany_succ, List.flatMap_cons, List.append_assoc, decIn_append u (h u (by simp))]
    simp only
    rw [List.drop_left, decMany_append us (fun v hv => h v (by simp [hv])) r]
    simp only [List.length_append]
theorem decMany_cut : ∀ (us : List V), (∀ u ∈ us, u.flatOk = true) → ∀ k, k < (us.flatMap V.bytesIn).length → decMany us.length ((us.flatMap V.bytesIn).take k) = .error 10
  | [], _, k, hk => by simp at hk
  | u :: us, h, k, hk => by
    rw [List.flatMap_cons] at hk ⊢
    rw [List.length_cons, decMany_succ]
    rcases take_of_append _ _ k hk with ⟨a, b⟩ | ⟨a, b, c⟩
    · rw [b, decIn_cut u (h u (by simp)) a]
    · rw [c, decIn_append u (h u (by simp))]
      simp only
      rw [List.drop_left, decMany_cut us (fun v hv => h v (by simp [hv])) _ b]

theorem decV_flat {l : List UInt8} {u : V} {r : List UInt8} (h : u.flatOk = true) (hl : l = u.bytesIn ++ r) : decV l = decIn l := by
  have hp := (flatOk_parts h).1
  have e : ∃ r', l = Wire.num u.k ++ r' := by
    rw [hl]
    unfold V.bytesIn flatBytes
    rw [List.append_assoc]
    exact ⟨_, rfl⟩
  obtain ⟨r', e⟩ := e
  unfold decV
  rw [e, numL_append ⟨by omega, by omega⟩]
  simp only
  rw [if_neg (by omega)]

/-- Decode undoes Encode -/
theorem decV_append (v : V) (h : v.ok = true) (r : List UInt8) : decV (v.bytes ++ r) = .ok (v, v.bytes.length) := by
  by_cases h5 : v.k = 5
  · obtain ⟨e, hl, hu⟩ := ok_list h h5
    have eb : v.bytes = Wire.num 5 ++ Wire.num v.l.length ++ v.l.flatMap V.bytesIn := by unfold V.bytes; rw [if_pos h5]
    have hn : Wire.inRange (v.l.length : Int) := ⟨by omega, by omega⟩
    rw [eb]
    unfold decV
    have e1 : Wire.num 5 ++ Wire.num (v.l.length : Int) ++ v.l.flatMap V.bytesIn ++ r = Wire.num 5 ++ (Wire.num (v.l.length : Int) ++ (v.l.flatMap V.bytesIn ++ r)) := by simp
    have e2 : (Wire.num 5 ++ (Wire.num (v.l.length : Int) ++ (v.l.flatMap V.bytesIn ++ r))).drop ((Wire.num 5).length + (Wire.num (v.l.length : Int)).length) = v.l.flatMap V.bytesIn ++ r := by
      rw [← List.drop_drop, List.drop_left, List.drop_left]
    rw [e1, numL_append ⟨by decide, by decide⟩]
    simp only
    rw [if_pos trivial, List.drop_left, numL_append hn]
    simp only
    rw [if_neg (by omega), e2, Int.toNat_natCast, decMany_append v.l (fun u hu' => (okIn_parts (hu u hu')).2) r]
    simp only
    rw [← e, List.length_append, List.length_append]
  · have hf := ok_flat h h5
    have eb : v.bytes = v.bytesIn := by unfold V.bytes; rw [if_neg h5]
    rw [eb, decV_flat hf rfl]
    exact decIn_append v hf r

/-- bytes that end too early are none -/
theorem decV_cut (v : V) (h : v.ok = true) {k : Nat} (hk : k < v.bytes.length) : decV (v.bytes.take k) = .error 10 := by
  by_cases h5 : v.k = 5
  · obtain ⟨e, hl, hu⟩ := ok_list h h5
    have eb : v.bytes = Wire.num 5 ++ (Wire.num v.l.length ++ v.l.flatMap V.bytesIn) := by unfold V.bytes; rw [if_pos h5, List.append_assoc]
    have hn : Wire.inRange (v.l.length : Int) := ⟨by omega, by omega⟩
    rw [eb] at hk ⊢
    unfold decV
    rcases take_of_append _ _ k hk with ⟨a, b⟩ | ⟨a, b, c⟩
    · rw [b, numL_cut ⟨by decide, by decide⟩ a]
    · rw [c, numL_append ⟨by decide, by decide⟩]
      simp only
      rw [if_pos trivial, List.drop_left]
      rcases take_of_append _ _ _ b with ⟨a', b'⟩ | ⟨a', b', c'⟩
      · rw [b', numL_cut hn a']
      · rw [c', numL_append hn]
        simp only
        rw [if_neg (by omega), ← List.drop_drop, List.drop_left, List.drop_left, Int.toNat_natCast, decMany_cut v.l (fun u hu' => (okIn_parts (hu u hu')).2) _ b']
  · have hf := ok_flat h h5
    have eb : v.bytes = v.bytesIn := by unfold V.bytes; rw [if_neg h5]
    rw [eb] at hk ⊢
    have hd := decIn_cut v hf hk
    have hp := (flatOk_parts hf).1
    unfold decV
    cases hn : numL (v.bytesIn.take k) with
    | none => rfl
    | some j =>
      simp only
      have := numL_some hn
      have h2 : Wire.num v.k <+: v.bytesIn := by unfold V.bytesIn flatBytes; exact List.prefix_append _ _
      have h3 := Wire.num_inj this.1 ⟨by omega, by omega⟩ (this.2.trans (List.take_prefix _ _)) h2
      rw [if_neg (by omega)]
      exact hd
end Go.Proofs.YtffoklhopmhjaaaGreatDoor

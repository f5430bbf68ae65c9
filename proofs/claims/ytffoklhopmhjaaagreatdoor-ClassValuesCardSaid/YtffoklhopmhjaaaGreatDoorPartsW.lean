/- parts.Next, Num, Text, End, New. -/
import Derived.Test.YtffoklhopmhjaaaGreatDoorParts
set_option linter.unusedSimpArgs false
set_option linter.unusedVariables false
namespace Go.Proofs.YtffoklhopmhjaaaGreatDoor
open Go Go.RowKit Go.Shelf Go.Sort

def numRPost (w0 : World) (ea : Addr) (s : ByteArray) (R : Nat) (o : Option Nat) (W : World) (e : Ending) (W' : World) : Prop :=
  e = .returned (.int .i64 (numS s o).1) ∧ RrO w0 ea s R (numS s o).2 W' ∧ Kept R W W'
def textRPost (w0 : World) (ea : Addr) (s : ByteArray) (R : Nat) (o : Option Nat) (W : World) (e : Ending) (W' : World) : Prop :=
  e = .returned (.string ⟨(textS s o).1.toArray⟩) ∧ RrO w0 ea s R (textS s o).2 W' ∧ Kept R W W'
theorem numP_room {s : ByteArray} {p : Nat} (hp : p ≤ s.size) {x : Int × Nat} (h : numP (s.data.toList.drop p) = some x) : p + x.2 ≤ s.size := by
  unfold numP at h
  cases hn : numL (s.data.toList.drop p) with
  | none => rw [hn] at h; cases h
  | some v =>
    rw [hn] at h
    cases h
    have := (numL_some hn).2.length_le
    rw [List.length_drop, nm_size] at this
    show p + (Wire.num v).length ≤ s.size
    omega
theorem textP_room {s : ByteArray} {p : Nat} (hp : p ≤ s.size) {x : List UInt8 × Nat} (h : textP (s.data.toList.drop p) = some x) : p + x.2 ≤ s.size := by
  unfold textP at h
  cases hn : textL (s.data.toList.drop p) with
  | none => rw [hn] at h; cases h
  | some v =>
    rw [hn] at h
    cases h
    have := (textL_some hn).2.length_le
    rw [List.length_drop, nm_size, List.length_append] at this
    show p + ((Wire.num v.length).length + v.length) ≤ s.size
    omega

set_option maxHeartbeats 2000000 in
set_option maxRecDepth 100000 in
theorem next_int_bad (w0 : World) (ea : Addr) (s : ByteArray) (R p : Nat) (W : World) (h : Rr w0 ea s R p true W) :
    Calls Tryz.prog 75 #[.pointer (some ⟨R, 0, none⟩), .func (.func 29) #[] #[]] W fun e W' => e = .returned (.int .i64 0) ∧ W = W' := by
  obtain ⟨⟨c0, c1, c2⟩, _⟩ := h.facts
  go_enter Tryz.func75, Tryz.ntmps75
  go_wp2_with fail
  go_ret
  exact ⟨rfl, rfl⟩

set_option maxHeartbeats 4000000 in
set_option maxRecDepth 100000 in
theorem next_int_ok (w0 : World) (ea : Addr) (s : ByteArray) (R p : Nat) (W : World) (h : Rr w0 ea s R p false W) :
    Calls Tryz.prog 75 #[.pointer (some ⟨R, 0, none⟩), .func (.func 29) #[] #[]] W (numRPost w0 ea s R (some p) W) := by
  have hcall := fun W' (hb : Below W.heap.size W W') => readNum_L s h.hs p h.hp ea W' (h.below hb).err
  have hrb : ∀ W', Below W.heap.size W W' → Rr w0 ea s R p false W' := fun W' hb => h.below hb
  have hsw : ∀ W1 W2 : World, (W1.cell? ⟨R, 0, none⟩ = some (.string s) ∧ W1.cell? ⟨R, 1, none⟩ = some (.int .i64 (p : Int)) ∧ W1.cell? ⟨R, 2, none⟩ = some (.bool false) ∧ Below W.heap.size W W1) → Below W1.heap.size W1 W2 → (W2.cell? ⟨R, 0, none⟩ = some (.string s) ∧ W2.cell? ⟨R, 1, none⟩ = some (.int .i64 (p : Int)) ∧ W2.cell? ⟨R, 2, none⟩ = some (.bool false) ∧ Below W.heap.size W W2) := by
    rintro W1 W2 ⟨_, _, _, hb⟩ hb2
    have hb3 := hb.trans (hb2.mono hb.size)
    obtain ⟨⟨c0, c1, c2⟩, _⟩ := (hrb W2 hb3).facts
    exact ⟨c0, c1, c2, hb3⟩
  obtain ⟨⟨c0, c1, c2⟩, _⟩ := h.facts
  have hS0 := hsw W W.drew ⟨c0, c1, c2, Below.refl _ _⟩ (Below.refl _ _).drew
  have hz := h.hp
  have hsz := h.hs
  unfold numRPost numS
  simp only
  have HC := Lib.hid hcall
  have HRB := Lib.hid hrb
  have HSW := Lib.hid hsw
  cases hn : numP (s.data.toList.drop p) with
  | none =>
    have hc2 : ∀ W', Below W.heap.size W W' → Calls Tryz.prog 29 #[.string s, .int .i64 (p : Int)] W' fun e W'' => e = .returned (.tuple #[.int .i64 0, .int .i64 0, .int .i64 10]) ∧ Below W'.heap.size W' W'' := fun W' hb => (HC.out W' hb).mono (fun e W'' hh => by
      obtain ⟨h1, h2⟩ := hh
      rw [hn] at h2
      exact ⟨h2, h1⟩)
    have HC2 := Lib.hid hc2
    clear hcall hrb hsw h hc2 HC hn
    go_enter Tryz.func75, Tryz.ntmps75
    go_wp2_with fail
    go_region_held3 (fun W1 : World => W1.cell? ⟨R, 0, none⟩ = some (.string s) ∧ W1.cell? ⟨R, 1, none⟩ = some (.int .i64 (p : Int)) ∧ W1.cell? ⟨R, 2, none⟩ = some (.bool false) ∧ Below W.heap.size W W1)
      (first | assumption | exact HSW.out _ _ (by assumption) (by assumption))
      (first | (go_at_call 29; (refine (HC2.out _ hS0.2.2.2).mono ?_); rintro e Y1 ⟨rfl, hY1⟩; have hS1 := HSW.out _ _ hS0 hY1))
    all_goals
      have hr1 := HRB.out _ hS1.2.2.2
      have hk := Kept.below (Kept.refl R W) hS1.2.2.2
      have hr2 := hr1.setBad true
      have hk2 := hk.setI 2 (.bool true)
      obtain ⟨⟨d0, d1, d2⟩, f1, f2⟩ := hr1.facts
      have HR2 := Lib.hid hr2
      have HK2 := Lib.hid hk2
      clear hr1 hk hr2 hk2 hS0 hS1 hY1
      go_wp2_with fail
      go_ret
      exact ⟨rfl, ⟨p, HR2.out⟩, HK2.out⟩
  | some x =>
    have hb0 : p + x.2 ≤ s.size := numP_room h.hp hn
    have hc2 : ∀ W', Below W.heap.size W W' → Calls Tryz.prog 29 #[.string s, .int .i64 (p : Int)] W' fun e W'' => e = .returned (.tuple #[.int .i64 x.1, .int .i64 ((p + x.2 : Nat) : Int), .int .i64 0]) ∧ Below W'.heap.size W' W'' := fun W' hb => (HC.out W' hb).mono (fun e W'' hh => by
      obtain ⟨h1, h2⟩ := hh
      rw [hn] at h2
      exact ⟨h2.1, h1⟩)
    obtain ⟨xv, xn⟩ := x
    simp only at hb0 hc2 ⊢
    have HC2 := Lib.hid hc2
    clear hcall hrb hsw h hc2 HC hn
    generalize hq : p + xn = q at hb0 HC2 ⊢
    clear hq
    go_enter Tryz.func75, Tryz.ntmps75
    go_wp2_with fail
    go_region_held3 (fun W1 : World => W1.cell? ⟨R, 0, none⟩ = some (.string s) ∧ W1.cell? ⟨R, 1, none⟩ = some (.int .i64 (p : Int)) ∧ W1.cell? ⟨R, 2, none⟩ = some (.bool false) ∧ Below W.heap.size W W1)
      (first | assumption | exact HSW.out _ _ (by assumption) (by assumption))
      (first | (go_at_call 29; (refine (HC2.out _ hS0.2.2.2).mono ?_); rintro e Y1 ⟨rfl, hY1⟩; have hS1 := HSW.out _ _ hS0 hY1))
    all_goals
      have hr1 := HRB.out _ hS1.2.2.2
      have hk := Kept.below (Kept.refl R W) hS1.2.2.2
      have hr2 := hr1.setAt (q := q) hb0
      have hk2 := hk.setI 1 (.int .i64 (q : Int))
      obtain ⟨⟨d0, d1, d2⟩, f1, f2⟩ := hr1.facts
      have HR2 := Lib.hid hr2
      have HK2 := Lib.hid hk2
      clear hr1 hk hr2 hk2 hS0 hS1 hY1
      go_wp2_with fail
      go_ret
      exact ⟨rfl, HR2.out, HK2.out⟩

set_option maxHeartbeats 1000000 in
set_option maxRecDepth 100000 in
theorem rdNum_any (w0 : World) (ea : Addr) (s : ByteArray) (R : Nat) (o : Option Nat) (W : World) (h : RrO w0 ea s R o W) :
    Calls Tryz.prog 47 #[.pointer (some ⟨R, 0, none⟩)] W (numRPost w0 ea s R o W) := by
  have hcall : Calls Tryz.prog 75 #[.pointer (some ⟨R, 0, none⟩), .func (.func 29) #[] #[]] W (numRPost w0 ea s R o W) := by
    cases o with
    | some p => exact next_int_ok w0 ea s R p W h
    | none =>
      obtain ⟨p, h⟩ := h
      refine (next_int_bad w0 ea s R p W h).mono ?_
      rintro e W' ⟨rfl, rfl⟩
      exact ⟨rfl, ⟨p, h⟩, Kept.refl _ _⟩
  unfold numRPost at hcall ⊢
  generalize (numS s o).2 = o2 at hcall ⊢
  generalize (numS s o).1 = v at hcall ⊢
  have HC := Lib.hid hcall
  clear hcall h
  go_enter Tryz.func47, Tryz.ntmps47
  go_wp2_with fail
  refine HC.out.mono ?_
  rintro e W1 ⟨rfl, h1, h2⟩
  have H1 := Lib.hid h1
  have H2 := Lib.hid h2
  clear h1 h2
  go_wp2_with fail
  go_ret
  exact ⟨rfl, H1.out, H2.out⟩

set_option maxHeartbeats 2000000 in
set_option maxRecDepth 100000 in
theorem next_str_bad (w0 : World) (ea : Addr) (s : ByteArray) (R p : Nat) (W : World) (h : Rr w0 ea s R p true W) :
    Calls Tryz.prog 74 #[.pointer (some ⟨R, 0, none⟩), .func (.func 31) #[] #[]] W fun e W' => e = .returned (.string ⟨#[]⟩) ∧ W = W' := by
  obtain ⟨⟨c0, c1, c2⟩, _⟩ := h.facts
  go_enter Tryz.func74, Tryz.ntmps74
  go_wp2_with fail
  go_ret
  exact ⟨rfl, rfl⟩

set_option maxHeartbeats 4000000 in
set_option maxRecDepth 100000 in
theorem next_str_ok (w0 : World) (ea : Addr) (s : ByteArray) (R p : Nat) (W : World) (h : Rr w0 ea s R p false W) :
    Calls Tryz.prog 74 #[.pointer (some ⟨R, 0, none⟩), .func (.func 31) #[] #[]] W (textRPost w0 ea s R (some p) W) := by
  have hcall := fun W' (hb : Below W.heap.size W W') => readText_L s h.hs p h.hp ea W' (h.below hb).err
  have hrb : ∀ W', Below W.heap.size W W' → Rr w0 ea s R p false W' := fun W' hb => h.below hb
  have hsw : ∀ W1 W2 : World, (W1.cell? ⟨R, 0, none⟩ = some (.string s) ∧ W1.cell? ⟨R, 1, none⟩ = some (.int .i64 (p : Int)) ∧ W1.cell? ⟨R, 2, none⟩ = some (.bool false) ∧ Below W.heap.size W W1) → Below W1.heap.size W1 W2 → (W2.cell? ⟨R, 0, none⟩ = some (.string s) ∧ W2.cell? ⟨R, 1, none⟩ = some (.int .i64 (p : Int)) ∧ W2.cell? ⟨R, 2, none⟩ = some (.bool false) ∧ Below W.heap.size W W2) := by
    rintro W1 W2 ⟨_, _, _, hb⟩ hb2
    have hb3 := hb.trans (hb2.mono hb.size)
    obtain ⟨⟨c0, c1, c2⟩, _⟩ := (hrb W2 hb3).facts
    exact ⟨c0, c1, c2, hb3⟩
  obtain ⟨⟨c0, c1, c2⟩, _⟩ := h.facts
  have hS0 := hsw W W.drew ⟨c0, c1, c2, Below.refl _ _⟩ (Below.refl _ _).drew
  have hz := h.hp
  have hsz := h.hs
  unfold textRPost textS
  simp only
  have HC := Lib.hid hcall
  have HRB := Lib.hid hrb
  have HSW := Lib.hid hsw
  cases hn : textP (s.data.toList.drop p) with
  | none =>
    have hc2 : ∀ W', Below W.heap.size W W' → Calls Tryz.prog 31 #[.string s, .int .i64 (p : Int)] W' fun e W'' => e = .returned (.tuple #[.string ⟨#[]⟩, .int .i64 0, .int .i64 10]) ∧ Below W'.heap.size W' W'' := fun W' hb => (HC.out W' hb).mono (fun e W'' hh => by
      obtain ⟨h1, h2⟩ := hh
      rw [hn] at h2
      exact ⟨h2, h1⟩)
    have HC2 := Lib.hid hc2
    clear hcall hrb hsw h hc2 HC hn
    go_enter Tryz.func74, Tryz.ntmps74
    go_wp2_with fail
    go_region_held3 (fun W1 : World => W1.cell? ⟨R, 0, none⟩ = some (.string s) ∧ W1.cell? ⟨R, 1, none⟩ = some (.int .i64 (p : Int)) ∧ W1.cell? ⟨R, 2, none⟩ = some (.bool false) ∧ Below W.heap.size W W1)
      (first | assumption | exact HSW.out _ _ (by assumption) (by assumption))
      (first | (go_at_call 31; (refine (HC2.out _ hS0.2.2.2).mono ?_); rintro e Y1 ⟨rfl, hY1⟩; have hS1 := HSW.out _ _ hS0 hY1))
    all_goals
      have hr1 := HRB.out _ hS1.2.2.2
      have hk := Kept.below (Kept.refl R W) hS1.2.2.2
      have hr2 := hr1.setBad true
      have hk2 := hk.setI 2 (.bool true)
      obtain ⟨⟨d0, d1, d2⟩, f1, f2⟩ := hr1.facts
      have HR2 := Lib.hid hr2
      have HK2 := Lib.hid hk2
      clear hr1 hk hr2 hk2 hS0 hS1 hY1
      go_wp2_with fail
      go_ret
      exact ⟨rfl, ⟨p, HR2.out⟩, HK2.out⟩
  | some x =>
    have hb0 : p + x.2 ≤ s.size := textP_room h.hp hn
    have hc2 : ∀ W', Below W.heap.size W W' → Calls Tryz.prog 31 #[.string s, .int .i64 (p : Int)] W' fun e W'' => e = .returned (.tuple #[.string ⟨x.1.toArray⟩, .int .i64 ((p + x.2 : Nat) : Int), .int .i64 0]) ∧ Below W'.heap.size W' W'' := fun W' hb => (HC.out W' hb).mono (fun e W'' hh => by
      obtain ⟨h1, h2⟩ := hh
      rw [hn] at h2
      exact ⟨h2.1, h1⟩)
    obtain ⟨xv, xn⟩ := x
    simp only at hb0 hc2 ⊢
    have HC2 := Lib.hid hc2
    clear hcall hrb hsw h hc2 HC hn
    generalize hq : p + xn = q at hb0 HC2 ⊢
    clear hq
    go_enter Tryz.func74, Tryz.ntmps74
    go_wp2_with fail
    go_region_held3 (fun W1 : World => W1.cell? ⟨R, 0, none⟩ = some (.string s) ∧ W1.cell? ⟨R, 1, none⟩ = some (.int .i64 (p : Int)) ∧ W1.cell? ⟨R, 2, none⟩ = some (.bool false) ∧ Below W.heap.size W W1)
      (first | assumption | exact HSW.out _ _ (by assumption) (by assumption))
      (first | (go_at_call 31; (refine (HC2.out _ hS0.2.2.2).mono ?_); rintro e Y1 ⟨rfl, hY1⟩; have hS1 := HSW.out _ _ hS0 hY1))
    all_goals
      have hr1 := HRB.out _ hS1.2.2.2
      have hk := Kept.below (Kept.refl R W) hS1.2.2.2
      have hr2 := hr1.setAt (q := q) hb0
      have hk2 := hk.setI 1 (.int .i64 (q : Int))
      obtain ⟨⟨d0, d1, d2⟩, f1, f2⟩ := hr1.facts
      have HR2 := Lib.hid hr2
      have HK2 := Lib.hid hk2
      clear hr1 hk hr2 hk2 hS0 hS1 hY1
      go_wp2_with fail
      go_ret
      exact ⟨rfl, HR2.out, HK2.out⟩

set_option maxHeartbeats 1000000 in
set_option maxRecDepth 100000 in
theorem rdText_any (w0 : World) (ea : Addr) (s : ByteArray) (R : Nat) (o : Option Nat) (W : World) (h : RrO w0 ea s R o W) :
    Calls Tryz.prog 46 #[.pointer (some ⟨R, 0, none⟩)] W (textRPost w0 ea s R o W) := by
  have hcall : Calls Tryz.prog 74 #[.pointer (some ⟨R, 0, none⟩), .func (.func 31) #[] #[]] W (textRPost w0 ea s R o W) := by
    cases o with
    | some p => exact next_str_ok w0 ea s R p W h
    | none =>
      obtain ⟨p, h⟩ := h
      refine (next_str_bad w0 ea s R p W h).mono ?_
      rintro e W' ⟨rfl, rfl⟩
      exact ⟨rfl, ⟨p, h⟩, Kept.refl _ _⟩
  unfold textRPost at hcall ⊢
  generalize (textS s o).2 = o2 at hcall ⊢
  generalize (textS s o).1 = v at hcall ⊢
  have HC := Lib.hid hcall
  clear hcall h
  go_enter Tryz.func46, Tryz.ntmps46
  go_wp2_with fail
  refine HC.out.mono ?_
  rintro e W1 ⟨rfl, h1, h2⟩
  have H1 := Lib.hid h1
  have H2 := Lib.hid h2
  clear h1 h2
  go_wp2_with fail
  go_ret
  exact ⟨rfl, H1.out, H2.out⟩

set_option maxHeartbeats 1000000 in
set_option maxRecDepth 100000 in
theorem rdEnd (w0 : World) (ea : Addr) (s : ByteArray) (R p : Nat) (bad : Bool) (W : World) (h : Rr w0 ea s R p bad W) :
    Calls Tryz.prog 48 #[.pointer (some ⟨R, 0, none⟩)] W fun e W' => e = .returned (.tuple #[.int .i64 (p : Int), .bool !bad]) ∧ Below W.heap.size W W' := by
  have hd := (Below.refl W.heap.size W).drew
  obtain ⟨⟨c0, c1, c2⟩, _⟩ := (h.below hd).facts
  clear h
  cases bad with
  | true =>
    go_enter Tryz.func48, Tryz.ntmps48
    go_wp2_with fail
    go_region
    go_wp2_with fail
    go_ret2
    exact ⟨rfl, hd⟩
  | false =>
    go_enter Tryz.func48, Tryz.ntmps48
    go_wp2_with fail
    go_region
    go_wp2_with fail
    go_ret2
    exact ⟨rfl, hd⟩
set_option maxHeartbeats 1000000 in
set_option maxRecDepth 100000 in
theorem rdNew (s : ByteArray) (p : Int) (W : World) :
    Calls Tryz.prog 44 #[.string s, .int .i64 p] W fun e W' => e = .returned (.pointer (some ⟨W.heap.size, 0, none⟩)) ∧ W' = W.alloc (.cells #[.string s, .int .i64 p, .bool false] 130) := by
  go_enter Tryz.func44, Tryz.ntmps44
  go_wp2_with fail
  go_ret
  exact ⟨rfl, rfl⟩
end Go.Proofs.YtffoklhopmhjaaaGreatDoor

/- val.rightList, val.Right whole. -/
import Derived.Test.YtffoklhopmhjaaaGreatDoorValRightM
import Derived.Test.YtffoklhopmhjaaaGreatDoorLies
set_option linter.unusedSimpArgs false
set_option linter.unusedVariables false
namespace Go.Proofs.YtffoklhopmhjaaaGreatDoor
open Go Go.RowKit Go.Shelf

/-- what a value's four cells hold -/
structure It where
  k : Int
  n : Int
  s : ByteArray
  p : Option Addr
  m : Nat
  c : Nat
abbrev It.cells (x : It) : List Value := [.int .i64 x.k, .int .i64 x.n, .string x.s, .slice x.p x.m x.c]
abbrev It.v (x : It) : Value := valV x.k x.n x.s (.slice x.p x.m x.c)
def itsCells : List It → List Value
  | [] => []
  | x :: xs => x.cells ++ itsCells xs
theorem itsCells_length : ∀ xs : List It, (itsCells xs).length = xs.length * 4
  | [] => rfl
  | x :: xs => by
    show (x.cells ++ itsCells xs).length = _
    rw [List.length_append, itsCells_length xs]; simp; omega
theorem itsCells_at : ∀ (xs : List It) (i : Nat) (h : i < xs.length) (j : Nat) (v : Value), (xs[i].cells)[j]? = some v → (itsCells xs)[i * 4 + j]? = some v
  | x :: xs, 0, h, j, v, hv => by
    show (x.cells ++ itsCells xs)[0 * 4 + j]? = some v
    have hj : j < x.cells.length := (List.getElem?_eq_some_iff.1 hv).1
    rw [Nat.zero_mul, Nat.zero_add, List.getElem?_append_left hj]
    exact hv
  | x :: xs, i + 1, h, j, v, hv => by
    show (x.cells ++ itsCells xs)[(i + 1) * 4 + j]? = some v
    rw [List.getElem?_append_right (by simp; omega), show (i + 1) * 4 + j - x.cells.length = i * 4 + j from by simp; omega]
    exact itsCells_at xs i (by simpa using h) j v hv

/-- may a value be that is no list -/
def flatOk (k n : Int) (s : ByteArray) (m : Nat) : Bool :=
  if k = 0 then decide (n = 0 ∧ s.size = 0 ∧ m = 0)
  else if k = 1 then decide ((-1000000000000000 ≤ n ∧ n ≤ 1000000000000000) ∧ s.size = 0 ∧ m = 0)
  else if k = 2 then decide (n = 0 ∧ (s.size ≤ 60 ∧ textOk s.data.toList = true) ∧ m = 0)
  else if k = 3 ∨ k = 4 then decide ((1 ≤ n ∧ n ≤ 100000 ∨ -20 ≤ n ∧ n ≤ -1) ∧ s.size = 0 ∧ m = 0)
  else false

theorem right_flat (k n : Int) (hk : k ≠ 5) (s : ByteArray) (hsz : s.size ≤ 9223372036854775807) (p : Option Addr) (m c : Nat) (w : World) (hT : Tabs w) :
    Calls Tryz.prog 25 #[valV k n s (.slice p m c)] w fun e w' => e = .returned (.bool (flatOk k n s m)) ∧ Below w.heap.size w w' := by
  by_cases h0 : k = 0
  · subst h0; exact right_nil n s p m c w
  by_cases h1 : k = 1
  · subst h1; exact right_num n s p m c w
  by_cases h2 : k = 2
  · subst h2; exact right_text n s hsz p m c w hT
  by_cases h3 : k = 3
  · subst h3; exact right_ref n s p m c w
  by_cases h4 : k = 4
  · subst h4; exact right_weak n s p m c w
  have : flatOk k n s m = false := by
    unfold flatOk
    rw [if_neg h0, if_neg h1, if_neg h2, if_neg (by omega)]
  rw [this]
  exact right_other k n ⟨h0, h1, h2, h3, h4, hk⟩ s p m c w

def itemOk (x : It) : Bool := !(x.k == 5) && flatOk x.k x.n x.s x.m
def listOk (xs : List It) : Bool := decide (xs.length ≤ 12) && xs.all itemOk

theorem all_take_succ {xs : List It} {k : Nat} (h : k < xs.length) (ha : (xs.take k).all itemOk = true) (hx : itemOk xs[k] = true) : (xs.take (k + 1)).all itemOk = true := by
  rw [List.take_succ_eq_append_getElem h, List.all_append, ha]
  simp [hx]
theorem all_false {xs : List It} {k : Nat} (h : k < xs.length) (hx : itemOk xs[k] = false) : xs.all itemOk = false := by
  rw [List.all_eq_false]
  exact ⟨xs[k], List.getElem_mem h, by simp [hx]⟩

set_option maxHeartbeats 2000000 in
set_option maxRecDepth 100000 in
theorem rightList_some (b off c : Nat) (xs : List It) (hs : ∀ x ∈ xs, x.s.size ≤ 9223372036854775807) (hl : xs.length ≤ 12) (w : World) (hT : Tabs w) (hb : b < w.heap.size)
    (hc : ∀ (i : Nat) (h : i < xs.length) (j : Nat) (u : Value), (xs[i].cells)[j]? = some u → w.cell? ⟨b, off + i * 4 + j, none⟩ = some u) :
    Calls Tryz.prog 56 #[.slice (some ⟨b, off, none⟩) xs.length c] w fun e w' => e = .returned (.bool (listOk xs)) ∧ Below w.heap.size w w' := by
  have HC := Lib.hid hc; clear hc
  have HS := Lib.hid hs; clear hs
  generalize hr : listOk xs = r
  have HR := Lib.hid hr; clear hr
  have d1 : ¬ (12 : Int) < (xs.length : Int) := by omega
  go_enter Tryz.func56, Tryz.ntmps56
  go_wp2
  go_loopw [10] (fun i wr => ∃ k : Nat, k ≤ xs.length ∧ i = .int .i64 (k : Int) ∧ (xs.take k).all itemOk = true ∧ Below w.heap.size w wr) (fun i _ => xs.length - (intOf i).toNat)
  case atStart => exact ⟨0, by omega, rfl, rfl, Below.refl _ _⟩
  case round =>
    obtain ⟨k, hk, rfl, he, hB⟩ := hrel
    have HE := Lib.hid he; clear he
    by_cases hlt : k < xs.length
    · have hel : ∃ x, xs[k] = x := ⟨_, rfl⟩
      obtain ⟨x, hx⟩ := hel
      have HX := Lib.hid hx; clear hx
      have hcx : ∀ (j : Nat) (u : Value), (x.cells)[j]? = some u → wr.cell? ⟨b, off + k * 4 + j, none⟩ = some u := fun j u hu => by
        rw [hB.cell (p := ⟨b, off + k * 4 + j, none⟩) hb]; exact HC.out k hlt j u (by rw [HX.out]; exact hu)
      have c0 : wr.cell? ⟨b, off + k * 4, none⟩ = some (.int .i64 x.k) := hcx 0 _ rfl
      have c1 : wr.cell? ⟨b, off + k * 4 + 1, none⟩ = some (.int .i64 x.n) := hcx 1 _ rfl
      have c2 : wr.cell? ⟨b, off + k * 4 + 2, none⟩ = some (.string x.s) := hcx 2 _ rfl
      have c3 : wr.cell? ⟨b, off + k * 4 + 3, none⟩ = some (.slice x.p x.m x.c) := hcx 3 _ rfl
      have hxs : x.s.size ≤ 9223372036854775807 := HS.out x (by rw [← HX.out]; exact List.getElem_mem hlt)
      clear hcx
      have d0 : (0 : Int) ≤ (k : Int) := by omega
      have d2 : (k : Int) < (xs.length : Int) := by omega
      have hTr := hT.below hB
      have hTr2 : Tabs (wr.alloc (.cells #[.int .i64 x.k, .int .i64 x.n, .string x.s, .slice x.p x.m x.c] 37)) := hTr.below ((Below.refl _ _).alloc (Nat.le_refl _) _)
      have hz : w.heap.size ≤ wr.heap.size := hB.size
      by_cases h5 : x.k = 5
      · have d5 : (x.k == 5) = true := by rw [beq_iff_eq]; exact h5
        have hR : r = false := by
          rw [← HR.out]
          unfold listOk
          rw [all_false hlt (by rw [HX.out]; simp [itemOk, h5])]
          simp
        have HRF := Lib.hid hR; clear hR
        have H5 := Lib.hid h5; clear h5
        go_wp2_with fail
        go_ret
        exact ⟨by rw [HRF.out]; rfl, hB.alloc hz _⟩
      · have d5 : (x.k == 5) = false := by rw [beq_eq_false_iff_ne]; exact h5
        have hit : itemOk xs[k] = flatOk x.k x.n x.s x.m := by rw [HX.out]; simp [itemOk, h5]
        have HIT := Lib.hid hit; clear hit
        generalize hF : flatOk x.k x.n x.s x.m = F
        have HF := Lib.hid hF; clear hF
        have H5 := Lib.hid h5; clear h5
        go_wp2_with fail
        refine (right_flat _ _ H5.out _ hxs _ _ _ _ hTr2).mono ?_
        rintro e W ⟨rfl, hB2⟩
        rw [HF.out]
        have hBW : Below w.heap.size w W := (hB.alloc hz _).trans (hB2.mono (by simp; omega))
        cases F with
        | true =>
          have htk : (xs.take (k + 1)).all itemOk = true := all_take_succ hlt HE.out (by rw [HIT.out, HF.out])
          have HTK := Lib.hid htk; clear htk
          go_wp2_with fail
          exact ⟨⟨k + 1, by omega, by go_num, HTK.out, hBW⟩, by simp [intOf]; omega⟩
        | false =>
          have hR : r = false := by
            rw [← HR.out]
            unfold listOk
            rw [all_false hlt (by rw [HIT.out, HF.out])]
            simp
          have HRF := Lib.hid hR; clear hR
          go_wp2_with fail
          go_ret
          exact ⟨by rw [HRF.out]; rfl, hBW⟩
    · obtain rfl : k = xs.length := by omega
      have hR : r = true := by
        rw [← HR.out]
        unfold listOk
        have := HE.out
        rw [List.take_of_length_le (Nat.le_refl _)] at this
        rw [this, decide_eq_true hl]; rfl
      have HRT := Lib.hid hR; clear hR
      go_wp2
      go_ret
      exact ⟨by rw [HRT.out]; rfl, hB⟩

set_option maxHeartbeats 1000000 in
set_option maxRecDepth 100000 in
theorem rightList_long (p : Option Addr) (m c : Nat) (hm : 12 < m) (w : World) :
    Calls Tryz.prog 56 #[.slice p m c] w fun e w' => e = .returned (.bool false) ∧ Below w.heap.size w w' := by
  have d1 : (12 : Int) < (m : Int) := by omega
  go_enter Tryz.func56, Tryz.ntmps56
  go_wp2
  go_ret
  exact ⟨rfl, Below.refl _ _⟩

set_option maxHeartbeats 1000000 in
set_option maxRecDepth 100000 in
theorem rightList_zero (p : Option Addr) (c : Nat) (w : World) :
    Calls Tryz.prog 56 #[.slice p 0 c] w fun e w' => e = .returned (.bool true) ∧ Below w.heap.size w w' := by
  go_enter Tryz.func56, Tryz.ntmps56
  go_wp2
  go_loopw [10] (fun i wr => i = .int .i64 0 ∧ w = wr) (fun _ _ => 0)
  case atStart => exact ⟨rfl, rfl⟩
  case round =>
    obtain ⟨rfl, rfl⟩ := hrel
    go_wp2
    go_ret
    exact ⟨rfl, Below.refl _ _⟩

theorem rightList_any {v : Value} (xs : List It) (hs : ∀ x ∈ xs, x.s.size ≤ 9223372036854775807) (w : World) (hT : Tabs w) (h : Lies w v xs.length 4 (itsCells xs)) :
    Calls Tryz.prog 56 #[v] w fun e w' => e = .returned (.bool (listOk xs)) ∧ Below w.heap.size w w' := by
  by_cases hl : xs.length ≤ 12
  · rcases h.2 with ⟨h0, p, c, rfl⟩ | ⟨b, off, c, rfl, hb, hc⟩
    · obtain rfl : xs = [] := List.eq_nil_of_length_eq_zero h0
      exact rightList_zero p c w
    · exact rightList_some b off c xs hs hl w hT hb (fun i h j u hu => by rw [Nat.add_assoc]; exact hc _ _ (itsCells_at xs i h j u hu))
  · have : listOk xs = false := by unfold listOk; rw [decide_eq_false hl]; rfl
    rw [this]
    rcases h.2 with ⟨h0, p, c, rfl⟩ | ⟨b, off, c, rfl, hb, hc⟩
    · omega
    · exact rightList_long _ _ _ (by omega) w

set_option maxHeartbeats 2000000 in
set_option maxRecDepth 100000 in
theorem right_list (n : Int) (s : ByteArray) (p : Option Addr) (c : Nat) (xs : List It) (hs : ∀ x ∈ xs, x.s.size ≤ 9223372036854775807) (w : World) (hT : Tabs w) (h : Lies w (.slice p xs.length c) xs.length 4 (itsCells xs)) :
    Calls Tryz.prog 25 #[valV 5 n s (.slice p xs.length c)] w fun e w' => e = .returned (.bool (decide (n = 0 ∧ s.size = 0) && listOk xs)) ∧ Below w.heap.size w w' := by
  generalize hr : (decide (n = 0 ∧ s.size = 0) && listOk xs) = r
  have HR := Lib.hid hr; clear hr
  generalize hF : listOk xs = F
  have HF := Lib.hid hF; clear hF
  go_enter Tryz.func25, Tryz.ntmps25
  go_wp2_with fail
  refine (rightList_any xs hs _ (hT.below (below_two _ _)) (h.below (below_two _ _))).mono ?_
  rintro e W ⟨rfl, hB⟩
  rw [HF.out]
  have hbw := below_two' _ _ hB
  have z2 : w.heap.size + 2 ≤ W.heap.size := by have := hB.size; simpa using this
  have g : ∀ k v, (k = w.heap.size ∨ k = w.heap.size + 1) → ∀ i, (World.cell? ((w.alloc (.cells #[.int .i64 5, .int .i64 n, .string s, .slice p xs.length c] 37)).alloc (.cells #[.int .i64 5, .int .i64 0, .string ⟨#[]⟩, .slice p xs.length c] 37)) ⟨k, i, none⟩) = some v → W.cell? ⟨k, i, none⟩ = some v := by
    intro k v hk i hc
    rw [hB.cell (by simp; omega), hc]
  have c1 := g w.heap.size (.int .i64 n) (.inl rfl) 1 (cell_first _ _ _ _ _)
  have c2 := g w.heap.size (.string s) (.inl rfl) 2 (cell_first _ _ _ _ _)
  have c3 := g w.heap.size (.slice p xs.length c) (.inl rfl) 3 (cell_first _ _ _ _ _)
  have b1 := g (w.heap.size + 1) (.int .i64 0) (.inr rfl) 1 (cell_second _ _ _ _ _)
  have b2 := g (w.heap.size + 1) (.string ⟨#[]⟩) (.inr rfl) 2 (cell_second _ _ _ _ _)
  have b3 := g (w.heap.size + 1) (.slice p xs.length c) (.inr rfl) 3 (cell_second _ _ _ _ _)
  clear g
  cases F with
  | true =>
    by_cases hn : n = 0
    · have d2 : ((0 : Int) == n) = true := by rw [beq_iff_eq]; omega
      by_cases hz : s.size = 0
      · have d3 : s.toList = [] := (toList_nil s).2 hz
        go_wp2
        go_ret
        exact ⟨congrArg (fun b => Ending.returned (Value.bool b)) (by rw [← HR.out, HF.out, decide_eq_true ⟨hn, hz⟩]; rfl), hbw⟩
      · have d3 : ¬ s.toList = [] := fun h => hz ((toList_nil s).1 h)
        go_wp2
        go_ret
        exact ⟨congrArg (fun b => Ending.returned (Value.bool b)) (by rw [← HR.out, decide_eq_false (fun h => hz h.2)]; rfl), hbw⟩
    · have d2 : ((0 : Int) == n) = false := by rw [beq_eq_false_iff_ne]; omega
      go_wp2
      go_ret
      exact ⟨congrArg (fun b => Ending.returned (Value.bool b)) (by rw [← HR.out, decide_eq_false (fun h => hn h.1)]; rfl), hbw⟩
  | false =>
    go_wp2
    go_ret
    exact ⟨congrArg (fun b => Ending.returned (Value.bool b)) (by rw [← HR.out, HF.out, Bool.and_false]), hbw⟩

/-- may a value be -/
def rightOf (x : It) (xs : List It) : Bool := if x.k = 5 then decide (x.n = 0 ∧ x.s.size = 0) && listOk xs else flatOk x.k x.n x.s x.m

theorem right_any (x : It) (xs : List It) (hx : x.s.size ≤ 9223372036854775807) (hs : ∀ y ∈ xs, y.s.size ≤ 9223372036854775807) (w : World) (hT : Tabs w) (h : x.k = 5 → x.m = xs.length ∧ Lies w (.slice x.p x.m x.c) xs.length 4 (itsCells xs)) :
    Calls Tryz.prog 25 #[x.v] w fun e w' => e = .returned (.bool (rightOf x xs)) ∧ Below w.heap.size w w' := by
  obtain ⟨k, n, s, p, m, c⟩ := x
  unfold rightOf
  by_cases h5 : k = 5
  · subst h5
    obtain ⟨hm, hL⟩ := h rfl
    simp only at hm hL
    subst hm
    rw [if_pos rfl]
    exact right_list n s p c xs hs w hT hL
  · rw [if_neg h5]
    exact right_flat k n h5 s hx p m c w hT
end Go.Proofs.YtffoklhopmhjaaaGreatDoor

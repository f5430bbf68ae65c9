/- Texts put together: RefCmp, RefLists, RefSame. -/
import Derived.Test.YtmijlcilnaeppaaGreatDoorBun5
/- moraineref03.Compare, moraineref03.Same. -/
set_option linter.unusedSimpArgs false
set_option linter.unusedVariables false
namespace Go.Proofs.YtmijlcilnaeppaaGreatDoor
open Go Go.RowKit Go.Shelf

/-- the reference's Compare at a depth -/
def RefAt (d : Nat) : Prop := ∀ (u v : V) (x y : It) (W : World), VIn d W u x → VIn d W v y →
  Calls Tryz.prog 19 #[x.v, y.v] W fun e W' => e = .returned (.int .i64 (cmpIn d u v)) ∧ Below W.heap.size W W'

set_option maxHeartbeats 4000000 in
set_option maxRecDepth 100000 in
theorem ref_first (k n : Int) (s : ByteArray) (p : Option Addr) (m c : Nat) (k' n' : Int) (s' : ByteArray) (p' : Option Addr) (m' c' : Nat) (h : ordI k k' ≠ 0) (w : World) :
    Calls Tryz.prog 19 #[valV k n s (.slice p m c), valV k' n' s' (.slice p' m' c')] w fun e w' => e = .returned (.int .i64 (ordI k k')) ∧ Below w.heap.size w w' := by
  obtain ⟨q1, hq1⟩ : ∃ q, ordI k k' = q := ⟨_, rfl⟩
  have k1 : ∀ w : World, Calls Tryz.prog 45 #[.int .i64 k, .int .i64 k'] w fun e w' => e = .returned (.int .i64 q1) ∧ w = w' := fun w => hq1 ▸ order_any k k' w
  rw [hq1] at h ⊢
  have K1 := Lib.hid k1
  clear k1 hq1
  have d1 : (q1 == 0) = false := by rw [beq_eq_false_iff_ne]; exact h
  go_enter Tryz.func19, Tryz.ntmps19
  go_wp2_with (go_at_call 45; (with_reducible refine (K1.out _).mono ?_); rintro e w1 ⟨rfl, rfl⟩)
  go_loopw [5, 6] (fun cc i wr => cc = .int .i64 q1 ∧ i = .int .i64 0 ∧ wr = (w.alloc (.cells #[.int .i64 k, .int .i64 n, .string s, .slice p m c] 30)).alloc (.cells #[.int .i64 k', .int .i64 n', .string s', .slice p' m' c'] 30)) (fun _ _ _ => 0)
  case atStart => exact ⟨rfl, rfl, rfl⟩
  case round =>
    obtain ⟨rfl, rfl, rfl⟩ := hrel
    go_wp2_with fail
    go_ret
    exact ⟨rfl, below_two _ _⟩

set_option maxHeartbeats 4000000 in
set_option maxRecDepth 100000 in
theorem ref_second (k n : Int) (s : ByteArray) (p : Option Addr) (m c : Nat) (k' n' : Int) (s' : ByteArray) (p' : Option Addr) (m' c' : Nat) (h0 : ordI k k' = 0) (h : ordI n n' ≠ 0) (w : World) :
    Calls Tryz.prog 19 #[valV k n s (.slice p m c), valV k' n' s' (.slice p' m' c')] w fun e w' => e = .returned (.int .i64 (ordI n n')) ∧ Below w.heap.size w w' := by
  obtain ⟨q1, hq1⟩ : ∃ q, ordI k k' = q := ⟨_, rfl⟩
  obtain ⟨q2, hq2⟩ : ∃ q, ordI n n' = q := ⟨_, rfl⟩
  have k1 : ∀ w : World, Calls Tryz.prog 45 #[.int .i64 k, .int .i64 k'] w fun e w' => e = .returned (.int .i64 q1) ∧ w = w' := fun w => hq1 ▸ order_any k k' w
  have k2 : ∀ w : World, Calls Tryz.prog 45 #[.int .i64 n, .int .i64 n'] w fun e w' => e = .returned (.int .i64 q2) ∧ w = w' := fun w => hq2 ▸ order_any n n' w
  rw [hq1] at h0
  rw [hq2] at h ⊢
  subst h0
  have K1 := Lib.hid k1
  have K2 := Lib.hid k2
  clear k1 k2 hq1 hq2
  have d1 : (q2 == 0) = false := by rw [beq_eq_false_iff_ne]; exact h
  go_enter Tryz.func19, Tryz.ntmps19
  go_wp2_with (go_at_call 45; (first | (with_reducible refine (K1.out _).mono ?_) | (with_reducible refine (K2.out _).mono ?_)); rintro e w1 ⟨rfl, rfl⟩)
  go_loopw [5, 6] (fun cc i wr => cc = .int .i64 q2 ∧ i = .int .i64 0 ∧ wr = (w.alloc (.cells #[.int .i64 k, .int .i64 n, .string s, .slice p m c] 30)).alloc (.cells #[.int .i64 k', .int .i64 n', .string s', .slice p' m' c'] 30)) (fun _ _ _ => 0)
  case atStart => exact ⟨rfl, rfl, rfl⟩
  case round =>
    obtain ⟨rfl, rfl, rfl⟩ := hrel
    go_wp2_with fail
    go_ret
    exact ⟨rfl, below_two _ _⟩

set_option maxHeartbeats 4000000 in
set_option maxRecDepth 100000 in
theorem ref_less (k n : Int) (s : ByteArray) (p : Option Addr) (m c : Nat) (k' n' : Int) (s' : ByteArray) (p' : Option Addr) (m' c' : Nat) (h0 : ordI k k' = 0) (h1 : ordI n n' = 0) (h : Op.bytesLess s.toList s'.toList = true) (w : World) :
    Calls Tryz.prog 19 #[valV k n s (.slice p m c), valV k' n' s' (.slice p' m' c')] w fun e w' => e = .returned (.int .i64 (-1)) ∧ Below w.heap.size w w' := by
  obtain ⟨q1, hq1⟩ : ∃ q, ordI k k' = q := ⟨_, rfl⟩
  obtain ⟨q2, hq2⟩ : ∃ q, ordI n n' = q := ⟨_, rfl⟩
  have k1 : ∀ w : World, Calls Tryz.prog 45 #[.int .i64 k, .int .i64 k'] w fun e w' => e = .returned (.int .i64 q1) ∧ w = w' := fun w => hq1 ▸ order_any k k' w
  have k2 : ∀ w : World, Calls Tryz.prog 45 #[.int .i64 n, .int .i64 n'] w fun e w' => e = .returned (.int .i64 q2) ∧ w = w' := fun w => hq2 ▸ order_any n n' w
  rw [hq1] at h0
  rw [hq2] at h1
  subst h0 h1
  have K1 := Lib.hid k1
  have K2 := Lib.hid k2
  clear k1 k2 hq1 hq2
  go_enter Tryz.func19, Tryz.ntmps19
  go_wp2_with (go_at_call 45; (first | (with_reducible refine (K1.out _).mono ?_) | (with_reducible refine (K2.out _).mono ?_)); rintro e w1 ⟨rfl, rfl⟩)
  go_loopw [5, 6] (fun cc i wr => cc = .int .i64 (-1) ∧ i = .int .i64 0 ∧ wr = (w.alloc (.cells #[.int .i64 k, .int .i64 n, .string s, .slice p m c] 30)).alloc (.cells #[.int .i64 k', .int .i64 n', .string s', .slice p' m' c'] 30)) (fun _ _ _ => 0)
  case atStart => exact ⟨rfl, rfl, rfl⟩
  case round =>
    obtain ⟨rfl, rfl, rfl⟩ := hrel
    go_wp2_with fail
    go_ret
    exact ⟨rfl, below_two _ _⟩

set_option maxHeartbeats 4000000 in
set_option maxRecDepth 100000 in
theorem ref_more (k n : Int) (s : ByteArray) (p : Option Addr) (m c : Nat) (k' n' : Int) (s' : ByteArray) (p' : Option Addr) (m' c' : Nat) (h0 : ordI k k' = 0) (h1 : ordI n n' = 0) (h : Op.bytesLess s.toList s'.toList = false) (h2 : ¬ s.toList = s'.toList) (w : World) :
    Calls Tryz.prog 19 #[valV k n s (.slice p m c), valV k' n' s' (.slice p' m' c')] w fun e w' => e = .returned (.int .i64 (1)) ∧ Below w.heap.size w w' := by
  obtain ⟨q1, hq1⟩ : ∃ q, ordI k k' = q := ⟨_, rfl⟩
  obtain ⟨q2, hq2⟩ : ∃ q, ordI n n' = q := ⟨_, rfl⟩
  have k1 : ∀ w : World, Calls Tryz.prog 45 #[.int .i64 k, .int .i64 k'] w fun e w' => e = .returned (.int .i64 q1) ∧ w = w' := fun w => hq1 ▸ order_any k k' w
  have k2 : ∀ w : World, Calls Tryz.prog 45 #[.int .i64 n, .int .i64 n'] w fun e w' => e = .returned (.int .i64 q2) ∧ w = w' := fun w => hq2 ▸ order_any n n' w
  rw [hq1] at h0
  rw [hq2] at h1
  subst h0 h1
  have K1 := Lib.hid k1
  have K2 := Lib.hid k2
  clear k1 k2 hq1 hq2
  have d1 : (s.toList == s'.toList) = false := by rw [beq_eq_false_iff_ne]; exact h2
  go_enter Tryz.func19, Tryz.ntmps19
  go_wp2_with (go_at_call 45; (first | (with_reducible refine (K1.out _).mono ?_) | (with_reducible refine (K2.out _).mono ?_)); rintro e w1 ⟨rfl, rfl⟩)
  go_loopw [5, 6] (fun cc i wr => cc = .int .i64 1 ∧ i = .int .i64 0 ∧ wr = (w.alloc (.cells #[.int .i64 k, .int .i64 n, .string s, .slice p m c] 30)).alloc (.cells #[.int .i64 k', .int .i64 n', .string s', .slice p' m' c'] 30)) (fun _ _ _ => 0)
  case atStart => exact ⟨rfl, rfl, rfl⟩
  case round =>
    obtain ⟨rfl, rfl, rfl⟩ := hrel
    go_wp2_with fail
    go_ret
    exact ⟨rfl, below_two _ _⟩

end Go.Proofs.YtmijlcilnaeppaaGreatDoor

/- moraineref03.Compare where the kinds, the numbers and the texts are alike. -/
set_option linter.unusedSimpArgs false
set_option linter.unusedVariables false
namespace Go.Proofs.YtmijlcilnaeppaaGreatDoor
open Go Go.RowKit Go.Shelf

set_option maxHeartbeats 8000000 in
set_option maxRecDepth 100000 in
theorem ref_lists (d : Nat) (hC : RefAt d) (us vs : List V) (xs ys : List It) (k n : Int) (s : ByteArray) (p : Option Addr) (m c : Nat) (k' n' : Int) (s' : ByteArray) (p' : Option Addr) (m' c' : Nat)
    (h0 : ordI k k' = 0) (h1 : ordI n n' = 0) (h : Op.bytesLess s.toList s'.toList = false) (h2 : s.toList = s'.toList) (w : World)
    (hum : m = us.length) (hvm : m' = vs.length) (hux : xs.length = us.length) (hvy : ys.length = vs.length) (hm : m ≤ 9223372036854775807) (hm' : m' ≤ 9223372036854775807)
    (hL : Lies w (.slice p m c) xs.length 4 (itsCells xs)) (hL' : Lies w (.slice p' m' c') ys.length 4 (itsCells ys))
    (j1 : ∀ (i : Nat) (h : i < xs.length) (h' : i < us.length), VIn d w us[i] xs[i]) (j2 : ∀ (i : Nat) (h : i < ys.length) (h' : i < vs.length), VIn d w vs[i] ys[i]) :
    Calls Tryz.prog 19 #[valV k n s (.slice p m c), valV k' n' s' (.slice p' m' c')] w fun e w' => e = .returned (.int .i64 (cmpL (cmpIn d) us vs)) ∧ Below w.heap.size w w' := by
  obtain ⟨q1, hq1⟩ : ∃ q, ordI k k' = q := ⟨_, rfl⟩
  obtain ⟨q2, hq2⟩ : ∃ q, ordI n n' = q := ⟨_, rfl⟩
  have k1 : ∀ w : World, Calls Tryz.prog 45 #[.int .i64 k, .int .i64 k'] w fun e w' => e = .returned (.int .i64 q1) ∧ w = w' := fun w => hq1 ▸ order_any k k' w
  have k2 : ∀ w : World, Calls Tryz.prog 45 #[.int .i64 n, .int .i64 n'] w fun e w' => e = .returned (.int .i64 q2) ∧ w = w' := fun w => hq2 ▸ order_any n n' w
  rw [hq1] at h0
  rw [hq2] at h1
  subst h0 h1
  generalize hr : cmpL (cmpIn d) us vs = r
  have hend : ∀ j, j ≤ m → j ≤ m' → (j = m ∨ j = m') → cmpL (cmpIn d) (us.drop j) (vs.drop j) = ordI m m' := fun j a b e => by rw [hum, hvm]; exact cmpL_end _ us vs j (by omega) (by omega) (by omega)
  have hrow : ∀ W : World, (W.cell? ⟨w.heap.size, 0, none⟩ = some (.int .i64 k) ∧ W.cell? ⟨w.heap.size, 1, none⟩ = some (.int .i64 n) ∧ W.cell? ⟨w.heap.size, 2, none⟩ = some (.string s) ∧ W.cell? ⟨w.heap.size, 3, none⟩ = some (.slice p m c) ∧ W.cell? ⟨w.heap.size + 1, 0, none⟩ = some (.int .i64 k') ∧ W.cell? ⟨w.heap.size + 1, 1, none⟩ = some (.int .i64 n') ∧ W.cell? ⟨w.heap.size + 1, 2, none⟩ = some (.string s') ∧ W.cell? ⟨w.heap.size + 1, 3, none⟩ = some (.slice p' m' c') ∧ w.heap.size + 2 ≤ W.heap.size ∧ Below w.heap.size w W) → ∀ j : Nat, j < m → j < m' → ∃ (b off b' off' : Nat) (x y : It) (q : Int), p = some ⟨b, off, none⟩ ∧ p' = some ⟨b', off', none⟩ ∧ b < w.heap.size ∧ b' < w.heap.size ∧ (W.cell? ⟨b, off + j * 4, none⟩ = some (.int .i64 x.k) ∧ W.cell? ⟨b, off + j * 4 + 1, none⟩ = some (.int .i64 x.n) ∧ W.cell? ⟨b, off + j * 4 + 2, none⟩ = some (.string x.s) ∧ W.cell? ⟨b, off + j * 4 + 3, none⟩ = some (.slice x.p x.m x.c) ∧ W.cell? ⟨b', off' + j * 4, none⟩ = some (.int .i64 y.k) ∧ W.cell? ⟨b', off' + j * 4 + 1, none⟩ = some (.int .i64 y.n) ∧ W.cell? ⟨b', off' + j * 4 + 2, none⟩ = some (.string y.s) ∧ W.cell? ⟨b', off' + j * 4 + 3, none⟩ = some (.slice y.p y.m y.c)) ∧
      cmpL (cmpIn d) (us.drop j) (vs.drop j) = (if q = 0 then cmpL (cmpIn d) (us.drop (j + 1)) (vs.drop (j + 1)) else q) ∧
      (∀ W', Below W.heap.size W W' → Calls Tryz.prog 19 #[x.v, y.v] W' fun e W'' => e = .returned (.int .i64 q) ∧ Below W.heap.size W W'') := by
    rintro W ⟨_, _, _, _, _, _, _, _, hz, hB⟩ j hj hj'
    have hjx : j < xs.length := by omega
    have hjy : j < ys.length := by omega
    rcases hL.2 with ⟨e0, _⟩ | ⟨b, off, c1, hv, hb, hc⟩
    · omega
    rcases hL'.2 with ⟨e0, _⟩ | ⟨b', off', c2, hv', hb', hc'⟩
    · omega
    obtain ⟨a0, a1, a2, a3⟩ := cell_four (W := W) (b := b) (off := off) (k := j) (x := xs[j]) (fun i u hu => by
        rw [hB.cell (p := ⟨b, off + j * 4 + i, none⟩) hb, Nat.add_assoc]; exact hc _ _ (itsCells_at xs j hjx i u hu))
    obtain ⟨b0, b1, b2, b3⟩ := cell_four (W := W) (b := b') (off := off') (k := j) (x := ys[j]) (fun i u hu => by
        rw [hB.cell (p := ⟨b', off' + j * 4 + i, none⟩) hb', Nat.add_assoc]; exact hc' _ _ (itsCells_at ys j hjy i u hu))
    refine ⟨b, off, b', off', xs[j], ys[j], cmpIn d us[j] vs[j], by injection hv, by injection hv', hb, hb', ⟨a0, a1, a2, a3, b0, b1, b2, b3⟩, cmpL_step _ us vs j (by omega) (by omega), fun W' hW => ?_⟩
    have hwW : Below w.heap.size w W' := hB.trans (hW.mono (by omega))
    refine (hC _ _ xs[j] ys[j] W' ((j1 j hjx (by omega)).below hwW) ((j2 j hjy (by omega)).below hwW)).mono ?_
    rintro e W'' ⟨rfl, h3⟩
    exact ⟨rfl, hW.trans (h3.mono hW.size)⟩
  have hsw : ∀ W W' : World, (W.cell? ⟨w.heap.size, 0, none⟩ = some (.int .i64 k) ∧ W.cell? ⟨w.heap.size, 1, none⟩ = some (.int .i64 n) ∧ W.cell? ⟨w.heap.size, 2, none⟩ = some (.string s) ∧ W.cell? ⟨w.heap.size, 3, none⟩ = some (.slice p m c) ∧ W.cell? ⟨w.heap.size + 1, 0, none⟩ = some (.int .i64 k') ∧ W.cell? ⟨w.heap.size + 1, 1, none⟩ = some (.int .i64 n') ∧ W.cell? ⟨w.heap.size + 1, 2, none⟩ = some (.string s') ∧ W.cell? ⟨w.heap.size + 1, 3, none⟩ = some (.slice p' m' c') ∧ w.heap.size + 2 ≤ W.heap.size ∧ Below w.heap.size w W) → Below W.heap.size W W' → (W'.cell? ⟨w.heap.size, 0, none⟩ = some (.int .i64 k) ∧ W'.cell? ⟨w.heap.size, 1, none⟩ = some (.int .i64 n) ∧ W'.cell? ⟨w.heap.size, 2, none⟩ = some (.string s) ∧ W'.cell? ⟨w.heap.size, 3, none⟩ = some (.slice p m c) ∧ W'.cell? ⟨w.heap.size + 1, 0, none⟩ = some (.int .i64 k') ∧ W'.cell? ⟨w.heap.size + 1, 1, none⟩ = some (.int .i64 n') ∧ W'.cell? ⟨w.heap.size + 1, 2, none⟩ = some (.string s') ∧ W'.cell? ⟨w.heap.size + 1, 3, none⟩ = some (.slice p' m' c') ∧ w.heap.size + 2 ≤ W'.heap.size ∧ Below w.heap.size w W') := by
    rintro W W' ⟨a0, a1, a2, a3, a4, a5, a6, a7, a8, a9⟩ hB
    have g : ∀ (q : Addr) (v : Value), q.block < W.heap.size → W.cell? q = some v → W'.cell? q = some v := fun q v hq hv => (hB.cell hq).trans hv
    have z1 : w.heap.size < W.heap.size := by omega
    have z2 : w.heap.size + 1 < W.heap.size := by omega
    exact ⟨g _ _ z1 a0, g _ _ z1 a1, g _ _ z1 a2, g _ _ z1 a3, g _ _ z2 a4, g _ _ z2 a5, g _ _ z2 a6, g _ _ z2 a7, Nat.le_trans a8 hB.size, a9.trans (hB.mono (by omega))⟩
  have K1 := Lib.hid k1
  have K2 := Lib.hid k2
  have HR := Lib.hid hr
  have HEND := Lib.hid hend
  have HROW := Lib.hid hrow
  have HSW := Lib.hid hsw
  clear k1 k2 hq1 hq2 hr hend hrow hsw hum hvm hux hvy hL hL' j1 j2 hC
  have d1 : (s.toList == s'.toList) = true := by rw [beq_iff_eq]; exact h2
  have h3 := h
  rw [h2] at h3
  go_enter Tryz.func19, Tryz.ntmps19
  go_wp2_with (go_at_call 45; (first | (with_reducible refine (K1.out _).mono ?_) | (with_reducible refine (K2.out _).mono ?_)); rintro e w1 ⟨rfl, rfl⟩)
  go_loopw [5, 6] (fun cc i wr => ∃ (j : Nat) (q : Int), cc = .int .i64 q ∧ i = .int .i64 (j : Int) ∧ j ≤ m ∧ j ≤ m' ∧ (q ≠ 0 → q = r) ∧ (q = 0 → cmpL (cmpIn d) (us.drop j) (vs.drop j) = r) ∧ (wr.cell? ⟨w.heap.size, 0, none⟩ = some (.int .i64 k) ∧ wr.cell? ⟨w.heap.size, 1, none⟩ = some (.int .i64 n) ∧ wr.cell? ⟨w.heap.size, 2, none⟩ = some (.string s) ∧ wr.cell? ⟨w.heap.size, 3, none⟩ = some (.slice p m c) ∧ wr.cell? ⟨w.heap.size + 1, 0, none⟩ = some (.int .i64 k') ∧ wr.cell? ⟨w.heap.size + 1, 1, none⟩ = some (.int .i64 n') ∧ wr.cell? ⟨w.heap.size + 1, 2, none⟩ = some (.string s') ∧ wr.cell? ⟨w.heap.size + 1, 3, none⟩ = some (.slice p' m' c') ∧ w.heap.size + 2 ≤ wr.heap.size ∧ Below w.heap.size w wr)) (fun _ i _ => m - (intOf i).toNat)
  case atStart =>
    exact ⟨0, 0, rfl, rfl, by omega, by omega, fun h => absurd rfl h, fun _ => HR.out, cell_first _ _ _ _ _, cell_first _ _ _ _ _, cell_first _ _ _ _ _, cell_first _ _ _ _ _, cell_second _ _ _ _ _, cell_second _ _ _ _ _, cell_second _ _ _ _ _, cell_second _ _ _ _ _, by simp, below_two _ _⟩
  case round =>
    obtain ⟨j, q, rfl, rfl, hjm, hjm', hqr, hqz, hS⟩ := hrel
    have HQR := Lib.hid hqr
    have HQZ := Lib.hid hqz
    clear hqr hqz
    by_cases h0 : q = 0
    · have d2 : (q == 0) = true := by rw [beq_iff_eq]; exact h0
      by_cases hin : j < m ∧ j < m'
      · obtain ⟨hj, hj'⟩ := hin
        obtain ⟨b, off, b', off', x, y, t, rfl, rfl, hb, hb', hI, hst, hcc⟩ := HROW.out wr hS j hj hj'
        have HST := Lib.hid hst
        have HCC := Lib.hid hcc
        have HS := Lib.hid hS
        have e1 : (j : Int) < (m : Int) := by omega
        have e2 : (j : Int) < (m' : Int) := by omega
        have e3 : (0 : Int) ≤ (j : Int) := by omega
        have hzz : w.heap.size + 2 ≤ wr.heap.size := hS.2.2.2.2.2.2.2.2.1
        have a3 := hS.2.2.2.1
        have b3 := hS.2.2.2.2.2.2.2.1
        have hT : wr.cell? ⟨w.heap.size, 3, none⟩ = some (.slice (some ⟨b, off, none⟩) m c) ∧ wr.cell? ⟨w.heap.size + 1, 3, none⟩ = some (.slice (some ⟨b', off', none⟩) m' c') ∧ wr.cell? ⟨b, off + j * 4, none⟩ = some (.int .i64 x.k) ∧ wr.cell? ⟨b, off + j * 4 + 1, none⟩ = some (.int .i64 x.n) ∧ wr.cell? ⟨b, off + j * 4 + 2, none⟩ = some (.string x.s) ∧ wr.cell? ⟨b, off + j * 4 + 3, none⟩ = some (.slice x.p x.m x.c) ∧ wr.cell? ⟨b', off' + j * 4, none⟩ = some (.int .i64 y.k) ∧ wr.cell? ⟨b', off' + j * 4 + 1, none⟩ = some (.int .i64 y.n) ∧ wr.cell? ⟨b', off' + j * 4 + 2, none⟩ = some (.string y.s) ∧ wr.cell? ⟨b', off' + j * 4 + 3, none⟩ = some (.slice y.p y.m y.c) := ⟨a3, b3, hI⟩
        have hTW : ∀ W', Below wr.heap.size wr W' → W'.cell? ⟨w.heap.size, 3, none⟩ = some (.slice (some ⟨b, off, none⟩) m c) ∧ W'.cell? ⟨w.heap.size + 1, 3, none⟩ = some (.slice (some ⟨b', off', none⟩) m' c') ∧ W'.cell? ⟨b, off + j * 4, none⟩ = some (.int .i64 x.k) ∧ W'.cell? ⟨b, off + j * 4 + 1, none⟩ = some (.int .i64 x.n) ∧ W'.cell? ⟨b, off + j * 4 + 2, none⟩ = some (.string x.s) ∧ W'.cell? ⟨b, off + j * 4 + 3, none⟩ = some (.slice x.p x.m x.c) ∧ W'.cell? ⟨b', off' + j * 4, none⟩ = some (.int .i64 y.k) ∧ W'.cell? ⟨b', off' + j * 4 + 1, none⟩ = some (.int .i64 y.n) ∧ W'.cell? ⟨b', off' + j * 4 + 2, none⟩ = some (.string y.s) ∧ W'.cell? ⟨b', off' + j * 4 + 3, none⟩ = some (.slice y.p y.m y.c) := by
          intro W' hB
          obtain ⟨t0, t1, t2, t3, t4, t5, t6, t7, t8, t9⟩ := hT
          have g : ∀ (q : Addr) (v : Value), q.block < wr.heap.size → wr.cell? q = some v → W'.cell? q = some v := fun q v hq hv => (hB.cell hq).trans hv
          have z1 : w.heap.size < wr.heap.size := by omega
          have z2 : w.heap.size + 1 < wr.heap.size := by omega
          have z3 : b < wr.heap.size := by omega
          have z4 : b' < wr.heap.size := by omega
          exact ⟨g _ _ z1 t0, g _ _ z2 t1, g _ _ z3 t2, g _ _ z3 t3, g _ _ z3 t4, g _ _ z3 t5, g _ _ z4 t6, g _ _ z4 t7, g _ _ z4 t8, g _ _ z4 t9⟩
        have HTW := Lib.hid hTW
        clear hTW hst hcc hI hS
        subst h0
        have ha : r = if t = 0 then cmpL (cmpIn d) (us.drop (j + 1)) (vs.drop (j + 1)) else t := (HQZ.out rfl).symm.trans HST.out
        have HA := Lib.hid ha
        clear ha
        go_wp2_with fail
        go_region_held3 (fun W' : World => W'.cell? ⟨w.heap.size, 3, none⟩ = some (.slice (some ⟨b, off, none⟩) m c) ∧ W'.cell? ⟨w.heap.size + 1, 3, none⟩ = some (.slice (some ⟨b', off', none⟩) m' c') ∧ W'.cell? ⟨b, off + j * 4, none⟩ = some (.int .i64 x.k) ∧ W'.cell? ⟨b, off + j * 4 + 1, none⟩ = some (.int .i64 x.n) ∧ W'.cell? ⟨b, off + j * 4 + 2, none⟩ = some (.string x.s) ∧ W'.cell? ⟨b, off + j * 4 + 3, none⟩ = some (.slice x.p x.m x.c) ∧ W'.cell? ⟨b', off' + j * 4, none⟩ = some (.int .i64 y.k) ∧ W'.cell? ⟨b', off' + j * 4 + 1, none⟩ = some (.int .i64 y.n) ∧ W'.cell? ⟨b', off' + j * 4 + 2, none⟩ = some (.string y.s) ∧ W'.cell? ⟨b', off' + j * 4 + 3, none⟩ = some (.slice y.p y.m y.c))
          (first | assumption | exact HTW.out _ (by assumption))
          (first | (go_at_call 19; (refine (HCC.out _ (Below.refl _ wr).drew).mono ?_); rintro e W1 ⟨rfl, hB1⟩))
        have hS1 := HSW.out wr W1 HS.out hB1
        have HS1 := Lib.hid hS1
        clear hS1
        go_wp2_with fail
        exact ⟨⟨j + 1, t, rfl, by go_num, hj, hj', fun h => by rw [HA.out, if_neg h], fun h => by rw [HA.out, if_pos h], HS1.out⟩, by simp [intOf]; omega⟩
      · have hrr : r = ordI m m' := by rw [← HQZ.out h0]; exact HEND.out j hjm hjm' (by omega)
        have HRR := Lib.hid hrr
        have hbw := hS.2.2.2.2.2.2.2.2.2
        have a3 := hS.2.2.2.1
        have b3 := hS.2.2.2.2.2.2.2.1
        clear hrr hS
        subst h0
        by_cases hj : j < m
        · have e1 : (j : Int) < (m : Int) := by omega
          have e2 : ¬ (j : Int) < (m' : Int) := by omega
          go_wp2_with (go_at_call 45; (with_reducible refine (order_any _ _ _).mono ?_); rintro e w1 ⟨rfl, rfl⟩)
          go_ret
          exact ⟨by rw [HRR.out]; rfl, hbw⟩
        · have e1 : ¬ (j : Int) < (m : Int) := by omega
          go_wp2_with (go_at_call 45; (with_reducible refine (order_any _ _ _).mono ?_); rintro e w1 ⟨rfl, rfl⟩)
          go_ret
          exact ⟨by rw [HRR.out]; rfl, hbw⟩
    · have d2 : (q == 0) = false := by rw [beq_eq_false_iff_ne]; exact h0
      have hrr : q = r := HQR.out h0
      have HRR := Lib.hid hrr
      have hbw := hS.2.2.2.2.2.2.2.2.2
      clear hrr hS
      go_wp2_with fail
      go_ret
      exact ⟨by rw [← HRR.out]; rfl, hbw⟩
end Go.Proofs.YtmijlcilnaeppaaGreatDoor

/- moraineref03.Compare, moraineref03.Same: any two values that lie. -/
set_option linter.unusedSimpArgs false
set_option linter.unusedVariables false
namespace Go.Proofs.YtmijlcilnaeppaaGreatDoor
open Go Go.RowKit Go.Shelf

theorem orI_one {a : Int} (l : List Int) (h : a ≠ 0) : orI (a :: l) = a := by
  show (if a = 0 then _ else a) = a
  rw [if_neg h]
theorem orI_zero {a : Int} (l : List Int) (h : a = 0) : orI (a :: l) = orI l := by
  show (if a = 0 then _ else a) = _
  rw [if_pos h]
theorem orI_last (a : Int) : orI [a] = a := by
  show (if a = 0 then 0 else a) = a
  by_cases h : a = 0
  · rw [if_pos h, h]
  · rw [if_neg h]

theorem ref_step (d : Nat) (hC : RefAt d) (a b : V) (x y : It) (w : World) (hx : VTop w a x (VIn d w)) (hy : VTop w b y (VIn d w)) :
    Calls Tryz.prog 19 #[x.v, y.v] w fun e w' => e = .returned (.int .i64 (cmpV d a b)) ∧ Below w.heap.size w w' := by
  rw [cmpV_top]
  have hxm := hx.room
  have hym := hy.room
  have hxl := hx.len
  have hyl := hy.len
  obtain ⟨_, h1, h2, h3, xs, x4, x5, x6⟩ := hx
  obtain ⟨_, g1, g2, g3, ys, y4, y5, y6⟩ := hy
  rw [← h1, ← h2, ← h3, ← g1, ← g2, ← g3]
  clear h1 h2 h3 g1 g2 g3
  obtain ⟨k, n, s, p, m, c⟩ := x
  obtain ⟨k', n', s', p', m', c'⟩ := y
  simp only at hxm hym hxl hyl x4 x5 y4 y5 ⊢
  by_cases e1 : ordI k k' = 0
  · rw [orI_zero _ e1]
    by_cases e2 : ordI n n' = 0
    · rw [orI_zero _ e2]
      cases e3 : Op.bytesLess s.toList s'.toList with
      | true =>
        have : ordS s s' = -1 := by unfold ordS; rw [if_pos e3]
        rw [this, orI_one _ (by decide)]
        exact ref_less k n s p m c k' n' s' p' m' c' e1 e2 e3 w
      | false =>
        by_cases e4 : s.toList = s'.toList
        · have : ordS s s' = 0 := by unfold ordS; rw [if_neg (by rw [e3]; decide), if_pos (by rw [e4]; simp)]
          rw [this, orI_zero _ rfl, orI_last]
          exact ref_lists d hC a.l b.l xs ys k n s p m c k' n' s' p' m' c' e1 e2 e3 e4 w hxl hyl x4 y4 hxm hym (by rw [x4, ← hxl]; rwa [x4, ← hxl] at x5) (by rw [y4, ← hyl]; rwa [y4, ← hyl] at y5) x6 y6
        · have : ordS s s' = 1 := by unfold ordS; rw [if_neg (by rw [e3]; decide), if_neg (by simpa using e4)]
          rw [this, orI_one _ (by decide)]
          exact ref_more k n s p m c k' n' s' p' m' c' e1 e2 e3 e4 w
    · rw [orI_one _ e2]
      exact ref_second k n s p m c k' n' s' p' m' c' e1 e2 w
  · rw [orI_one _ e1]
    exact ref_first k n s p m c k' n' s' p' m' c' e1 w

theorem ref_at : ∀ d, RefAt d
  | 0 => fun u v x y W h _ => h.elim
  | d + 1 => fun u v x y W hx hy => ref_step d (ref_at d) u v x y W (VAt.top hx) (VAt.top hy)

theorem refCompare_any (d : Nat) (a b : V) (x y : It) (w : World) (hx : VAt d w a x) (hy : VAt d w b y) :
    Calls Tryz.prog 19 #[x.v, y.v] w fun e w' => e = .returned (.int .i64 (cmpV d a b)) ∧ Below w.heap.size w w' := ref_at (d + 1) a b x y w hx hy

set_option maxHeartbeats 1000000 in
set_option maxRecDepth 100000 in
theorem refSame_any (d : Nat) (a b : V) (x y : It) (w : World) (hx : VAt d w a x) (hy : VAt d w b y) :
    Calls Tryz.prog 21 #[x.v, y.v] w fun e w' => e = .returned (.bool (cmpV d a b == 0)) ∧ Below w.heap.size w w' := by
  obtain ⟨q, hq⟩ : ∃ q, cmpV d a b = q := ⟨_, rfl⟩
  have hc : ∀ W, Below w.heap.size w W → Calls Tryz.prog 19 #[x.v, y.v] W fun e w' => e = .returned (.int .i64 q) ∧ Below W.heap.size W w' := fun W h => hq ▸ refCompare_any d a b x y W (hx.below h) (hy.below h)
  rw [hq]
  have HC := Lib.hid hc
  clear hc hx hy hq
  obtain ⟨k, n, s, p, m, c⟩ := x
  obtain ⟨k', n', s', p', m', c'⟩ := y
  go_enter Tryz.func21, Tryz.ntmps21
  go_wp2_with fail
  refine (HC.out _ (below_two _ _)).mono ?_
  rintro e W ⟨rfl, hB⟩
  have hbw := below_two' _ _ hB
  go_wp2_with fail
  go_ret
  exact ⟨rfl, hbw⟩
end Go.Proofs.YtmijlcilnaeppaaGreatDoor

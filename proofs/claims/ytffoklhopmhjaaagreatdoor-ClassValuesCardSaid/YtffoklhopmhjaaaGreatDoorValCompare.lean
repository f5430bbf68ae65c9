/- val.Compare, val.Same. -/
import Derived.Test.YtffoklhopmhjaaaGreatDoorValCmp
set_option linter.unusedSimpArgs false
set_option linter.unusedVariables false
namespace Go.Proofs.YtffoklhopmhjaaaGreatDoor
open Go Go.RowKit Go.Shelf

set_option maxHeartbeats 2000000 in
set_option maxRecDepth 100000 in
theorem lists_zero (p q : Option Addr) (n m c c' : Nat) (hz : n = 0 ∨ m = 0) (hn : n ≤ 9223372036854775807) (hm : m ≤ 9223372036854775807) (w : World) :
    Calls Tryz.prog 69 #[.slice p n c, .slice q m c', .func (.func 36) #[] #[]] w fun e w' => e = .returned (.int .i64 (ordI n m)) ∧ Below w.heap.size w w' := by
  have hmin : ¬ (0 : Int) < min (n : Int) (m : Int) := by omega
  go_enter Tryz.func69, Tryz.ntmps69
  go_wp2_with fail
  go_loopw [14] (fun i wr => i = .int .i64 0 ∧ w = wr) (fun i _ => 0)
  case atStart => exact ⟨rfl, rfl⟩
  case round =>
    obtain ⟨rfl, rfl⟩ := hrel
    go_wp2_with (go_at_call 67; refine (cmpInt_any _ _ _).mono ?_; rintro e w1 ⟨rfl, rfl⟩)
    go_ret
    exact ⟨rfl, Below.refl _ _⟩

theorem lists_any (d : Nat) (hC : CmpAt d) (a b : V) (x y : It) (w : World) (hx : VTop w a x (VIn d w)) (hy : VTop w b y (VIn d w)) (hxm : x.m ≤ 9223372036854775807) (hym : y.m ≤ 9223372036854775807) :
    Calls Tryz.prog 69 #[.slice x.p x.m x.c, .slice y.p y.m y.c, .func (.func 36) #[] #[]] w fun e w' => e = .returned (.int .i64 (cmpL (cmpIn d) a.l b.l)) ∧ Below w.heap.size w w' := by
  obtain ⟨_, _, _, _, xs, x4, x5, x6⟩ := hx
  obtain ⟨_, _, _, _, ys, y4, y5, y6⟩ := hy
  have hend : (a.l.length = 0 ∨ b.l.length = 0) → cmpL (cmpIn d) a.l b.l = ordI a.l.length b.l.length := fun h => by
    have := cmpL_end (cmpIn d) a.l b.l 0 (by omega) (by omega) (by omega)
    simpa using this
  rcases x5.2 with ⟨x0, p, c, hxe⟩ | ⟨b1, off, c, hxe, hb, hc⟩
  · have hm0 : x.m = 0 := by injection hxe
    have hym2 : y.m = b.l.length := by
      rcases y5.2 with ⟨y0, q, c', hye⟩ | ⟨b2, off', c', hye, _, _⟩
      · injection hye with _ h _; omega
      · injection hye with _ h _; omega
    rw [hend (.inl (by omega)), show a.l.length = x.m from by omega, ← hym2]
    exact lists_zero _ _ _ _ _ _ (.inl hm0) hxm hym w
  · rcases y5.2 with ⟨y0, q, c', hye⟩ | ⟨b2, off', c', hye, hb', hc'⟩
    · have hm0 : y.m = 0 := by injection hye
      have hxm2 : x.m = a.l.length := by injection hxe with _ h _; omega
      rw [hend (.inr (by omega)), show b.l.length = y.m from by omega, ← hxm2]
      exact lists_zero _ _ _ _ _ _ (.inr hm0) hxm hym w
    · rw [hxe, hye]
      have e1 : x.m = xs.length := by injection hxe
      have e2 : y.m = ys.length := by injection hye
      exact lists_some d hC b1 off c b2 off' c' a.l b.l xs ys x4 y4 (by omega) (by omega) w hb hb' (fun i h j u hu => by rw [Nat.add_assoc]; exact hc _ _ (itsCells_at xs i h j u hu)) (fun i h j u hu => by rw [Nat.add_assoc]; exact hc' _ _ (itsCells_at ys i h j u hu)) x6 y6

set_option maxHeartbeats 4000000 in
set_option maxRecDepth 100000 in
theorem compare_step (d : Nat) (hC : CmpAt d) (a b : V) (x y : It) (w : World) (hx : VTop w a x (VIn d w)) (hy : VTop w b y (VIn d w)) (hxm : x.m ≤ 9223372036854775807) (hym : y.m ≤ 9223372036854775807) :
    Calls Tryz.prog 36 #[x.v, y.v] w fun e w' => e = .returned (.int .i64 (cmpV d a b)) ∧ Below w.heap.size w w' := by
  have hll : ∀ W, Below w.heap.size w W → Calls Tryz.prog 69 #[.slice x.p x.m x.c, .slice y.p y.m y.c, .func (.func 36) #[] #[]] W fun e w' => e = .returned (.int .i64 (cmpL (cmpIn d) a.l b.l)) ∧ Below W.heap.size W w' :=
    fun W hW => lists_any d hC a b x y W (hx.mono hW (fun _ _ h => h.below hW)) (hy.mono hW (fun _ _ h => h.below hW)) hxm hym
  rw [cmpV_top]
  have h1 := hx.2.1; have h2 := hx.2.2.1; have h3 := hx.2.2.2.1
  have g1 := hy.2.1; have g2 := hy.2.2.1; have g3 := hy.2.2.2.1
  rw [← h1, ← h2, ← h3, ← g1, ← g2, ← g3]
  generalize cmpL (cmpIn d) a.l b.l = q4 at hll ⊢
  clear hx hy h1 h2 h3 g1 g2 g3 hC
  obtain ⟨k, n, s, p, m, c⟩ := x
  obtain ⟨k', n', s', p', m', c'⟩ := y
  simp only at hll ⊢
  obtain ⟨q1, hq1⟩ : ∃ q, ordI k k' = q := ⟨_, rfl⟩
  obtain ⟨q2, hq2⟩ : ∃ q, ordI n n' = q := ⟨_, rfl⟩
  obtain ⟨q3, hq3⟩ : ∃ q, ordS s s' = q := ⟨_, rfl⟩
  have k1 : ∀ w : World, Calls Tryz.prog 67 #[.int .i64 k, .int .i64 k'] w fun e w' => e = .returned (.int .i64 q1) ∧ w = w' := fun w => hq1 ▸ cmpInt_any k k' w
  have k2 : ∀ w : World, Calls Tryz.prog 67 #[.int .i64 n, .int .i64 n'] w fun e w' => e = .returned (.int .i64 q2) ∧ w = w' := fun w => hq2 ▸ cmpInt_any n n' w
  have k3 : ∀ w : World, Calls Tryz.prog 68 #[.string s, .string s'] w fun e w' => e = .returned (.int .i64 q3) ∧ w = w' := fun w => hq3 ▸ cmpStr_any s s' w
  rw [hq1, hq2, hq3]
  generalize hr : orI [q1, q2, q3, q4] = r
  have k5 : ∀ (g : Nat) (w : World), (∀ (j : Nat) (hj : j < [q1, q2, q3, q4].length), w.cell? ⟨g, 0 + j, none⟩ = some (.int .i64 [q1, q2, q3, q4][j])) → Calls Tryz.prog 66 #[.slice (some ⟨g, 0, none⟩) 4 4] w fun e w' => e = .returned (.int .i64 r) ∧ w = w' := fun g w h => hr ▸ cmpOr_any g 0 4 [q1, q2, q3, q4] (by simp) w h
  have HLL := Lib.hid hll
  have K1 := Lib.hid k1
  have K2 := Lib.hid k2
  have K3 := Lib.hid k3
  have K5 := Lib.hid k5
  clear hll k1 k2 k3 k5 hq1 hq2 hq3 hr
  go_enter Tryz.func36, Tryz.ntmps36
  have hsw : ∀ W W', (W.cell? ⟨w.heap.size, 0, none⟩ = some (.int .i64 k) ∧ W.cell? ⟨w.heap.size, 1, none⟩ = some (.int .i64 n) ∧ W.cell? ⟨w.heap.size, 2, none⟩ = some (.string s) ∧ W.cell? ⟨w.heap.size, 3, none⟩ = some (.slice p m c) ∧ W.cell? ⟨w.heap.size + 1, 0, none⟩ = some (.int .i64 k') ∧ W.cell? ⟨w.heap.size + 1, 1, none⟩ = some (.int .i64 n') ∧ W.cell? ⟨w.heap.size + 1, 2, none⟩ = some (.string s') ∧ W.cell? ⟨w.heap.size + 1, 3, none⟩ = some (.slice p' m' c') ∧ w.heap.size + 2 ≤ W.heap.size ∧ Below w.heap.size w W) → Below W.heap.size W W' → (W'.cell? ⟨w.heap.size, 0, none⟩ = some (.int .i64 k) ∧ W'.cell? ⟨w.heap.size, 1, none⟩ = some (.int .i64 n) ∧ W'.cell? ⟨w.heap.size, 2, none⟩ = some (.string s) ∧ W'.cell? ⟨w.heap.size, 3, none⟩ = some (.slice p m c) ∧ W'.cell? ⟨w.heap.size + 1, 0, none⟩ = some (.int .i64 k') ∧ W'.cell? ⟨w.heap.size + 1, 1, none⟩ = some (.int .i64 n') ∧ W'.cell? ⟨w.heap.size + 1, 2, none⟩ = some (.string s') ∧ W'.cell? ⟨w.heap.size + 1, 3, none⟩ = some (.slice p' m' c') ∧ w.heap.size + 2 ≤ W'.heap.size ∧ Below w.heap.size w W') := by
    rintro W W' ⟨a0, a1, a2, a3, a4, a5, a6, a7, a8, a9⟩ hB
    have g : ∀ (q : Addr) (v : Value), q.block < W.heap.size → W.cell? q = some v → W'.cell? q = some v := fun q v hq hv => (hB.cell hq).trans hv
    have z1 : w.heap.size < W.heap.size := by omega
    have z2 : w.heap.size + 1 < W.heap.size := by omega
    exact ⟨g _ _ z1 a0, g _ _ z1 a1, g _ _ z1 a2, g _ _ z1 a3, g _ _ z2 a4, g _ _ z2 a5, g _ _ z2 a6, g _ _ z2 a7, Nat.le_trans a8 hB.size, a9.trans (hB.mono (by omega))⟩
  have h0 : ∀ W, W = (w.alloc (.cells #[.int .i64 k, .int .i64 n, .string s, .slice p m c] 37)).alloc (.cells #[.int .i64 k', .int .i64 n', .string s', .slice p' m' c'] 37) → (W.cell? ⟨w.heap.size, 0, none⟩ = some (.int .i64 k) ∧ W.cell? ⟨w.heap.size, 1, none⟩ = some (.int .i64 n) ∧ W.cell? ⟨w.heap.size, 2, none⟩ = some (.string s) ∧ W.cell? ⟨w.heap.size, 3, none⟩ = some (.slice p m c) ∧ W.cell? ⟨w.heap.size + 1, 0, none⟩ = some (.int .i64 k') ∧ W.cell? ⟨w.heap.size + 1, 1, none⟩ = some (.int .i64 n') ∧ W.cell? ⟨w.heap.size + 1, 2, none⟩ = some (.string s') ∧ W.cell? ⟨w.heap.size + 1, 3, none⟩ = some (.slice p' m' c') ∧ w.heap.size + 2 ≤ W.heap.size ∧ Below w.heap.size w W) := by
    rintro W rfl
    exact ⟨cell_first _ _ _ _ _, cell_first _ _ _ _ _, cell_first _ _ _ _ _, cell_first _ _ _ _ _, cell_second _ _ _ _ _, cell_second _ _ _ _ _, cell_second _ _ _ _ _, cell_second _ _ _ _ _, by simp, below_two _ _⟩
  have hc4 : ∀ (W : World) (j : Nat) (hj : j < [q1, q2, q3, q4].length), (W.alloc (.cells #[.int .i64 q1, .int .i64 q2, .int .i64 q3, .int .i64 q4] 3)).cell? ⟨W.heap.size, 0 + j, none⟩ = some (.int .i64 [q1, q2, q3, q4][j]) := by
    intro W j hj
    rw [World.cell?_alloc_new]
    match j, hj with
    | 0, _ => rfl
    | 1, _ => rfl
    | 2, _ => rfl
    | 3, _ => rfl
  have HSW := Lib.hid hsw
  have H0 := Lib.hid h0
  have HC4 := Lib.hid hc4
  clear hsw h0 hc4
  go_wp2_with fail
  generalize hW0 : (w.alloc (.cells #[.int .i64 k, .int .i64 n, .string s, .slice p m c] 37)).alloc (.cells #[.int .i64 k', .int .i64 n', .string s', .slice p' m' c'] 37) = W0
  have hS0 := H0.out W0 hW0.symm
  have hS1 := HSW.out W0 W0.drew hS0 (Below.refl _ _).drew
  clear hW0 H0
  go_region_held3 (fun W' : World => (W'.cell? ⟨w.heap.size, 0, none⟩ = some (.int .i64 k) ∧ W'.cell? ⟨w.heap.size, 1, none⟩ = some (.int .i64 n) ∧ W'.cell? ⟨w.heap.size, 2, none⟩ = some (.string s) ∧ W'.cell? ⟨w.heap.size, 3, none⟩ = some (.slice p m c) ∧ W'.cell? ⟨w.heap.size + 1, 0, none⟩ = some (.int .i64 k') ∧ W'.cell? ⟨w.heap.size + 1, 1, none⟩ = some (.int .i64 n') ∧ W'.cell? ⟨w.heap.size + 1, 2, none⟩ = some (.string s') ∧ W'.cell? ⟨w.heap.size + 1, 3, none⟩ = some (.slice p' m' c') ∧ w.heap.size + 2 ≤ W'.heap.size ∧ Below w.heap.size w W'))
    (first | assumption | (refine HSW.out _ _ (by assumption) ((Below.refl _ _).alloc (Nat.le_refl _) _)))
    (first
      | (go_at_call 67; (first | (with_reducible refine (K1.out _).mono ?_) | (with_reducible refine (K2.out _).mono ?_)); rintro e w1 ⟨rfl, rfl⟩)
      | (go_at_call 68; (with_reducible refine (K3.out _).mono ?_); rintro e w1 ⟨rfl, rfl⟩)
      | (go_at_call 69; (with_reducible refine (HLL.out _ hS1.2.2.2.2.2.2.2.2.2).mono ?_); rintro e W1 ⟨rfl, hB1⟩; have hS2 := HSW.out _ _ hS1 hB1)
      | (go_at_call 66; (with_reducible refine (K5.out _ _ (HC4.out _)).mono ?_); rintro e w1 ⟨rfl, rfl⟩))
  all_goals
    go_wp2_with fail
    go_ret
    exact ⟨rfl, hS2.2.2.2.2.2.2.2.2.2.alloc (by omega) _⟩

theorem compare_at : ∀ d, CmpAt d
  | 0 => fun u v x y W h _ => h.elim
  | d + 1 => fun u v x y W hx hy => by
    have tx := VAt.top hx
    have ty := VAt.top hy
    exact compare_step d (compare_at d) u v x y W tx ty tx.room ty.room

/-- val.Compare, of any two values that lie -/
theorem compare_any (d : Nat) (a b : V) (x y : It) (w : World) (hx : VAt d w a x) (hy : VAt d w b y) :
    Calls Tryz.prog 36 #[x.v, y.v] w fun e w' => e = .returned (.int .i64 (cmpV d a b)) ∧ Below w.heap.size w w' := compare_at (d + 1) a b x y w hx hy

set_option maxHeartbeats 1000000 in
set_option maxRecDepth 100000 in
theorem same_any (d : Nat) (a b : V) (x y : It) (w : World) (hx : VAt d w a x) (hy : VAt d w b y) :
    Calls Tryz.prog 11 #[x.v, y.v] w fun e w' => e = .returned (.bool (cmpV d a b == 0)) ∧ Below w.heap.size w w' := by
  obtain ⟨q, hq⟩ : ∃ q, cmpV d a b = q := ⟨_, rfl⟩
  have hc : ∀ W, Below w.heap.size w W → Calls Tryz.prog 36 #[x.v, y.v] W fun e w' => e = .returned (.int .i64 q) ∧ Below W.heap.size W w' := fun W h => hq ▸ compare_any d a b x y W (hx.below h) (hy.below h)
  rw [hq]
  have HC := Lib.hid hc
  clear hc hx hy hq
  obtain ⟨k, n, s, p, m, c⟩ := x
  obtain ⟨k', n', s', p', m', c'⟩ := y
  go_enter Tryz.func11, Tryz.ntmps11
  go_wp2_with fail
  refine (HC.out _ (below_two _ _)).mono ?_
  rintro e W ⟨rfl, hB⟩
  have hbw := below_two' _ _ hB
  go_wp2_with fail
  go_ret
  exact ⟨rfl, hbw⟩
end Go.Proofs.YtffoklhopmhjaaaGreatDoor

/- val.compareLists, val.Compare. -/
import Derived.Deep.RegionHeld3
import Derived.Test.YtffoklhopmhjaaaGreatDoorValSmall
import Derived.Test.YtffoklhopmhjaaaGreatDoorValList
set_option linter.unusedSimpArgs false
set_option linter.unusedVariables false
namespace Go.Proofs.YtffoklhopmhjaaaGreatDoor
open Go Go.RowKit Go.Shelf

/-- a value -/
inductive V where
  | mk (k n : Int) (s : ByteArray) (l : List V)
def V.k : V → Int | .mk k _ _ _ => k
def V.n : V → Int | .mk _ n _ _ => n
def V.s : V → ByteArray | .mk _ _ s _ => s
def V.l : V → List V | .mk _ _ _ l => l

/-- what every value of Go's keeps -/
structure V.fine (v : V) : Prop where
  k : -9223372036854775808 ≤ v.k ∧ v.k ≤ 9223372036854775807
  n : -9223372036854775808 ≤ v.n ∧ v.n ≤ 9223372036854775807
  s : v.s.size ≤ 9223372036854775807
  l : v.l.length ≤ 9223372036854775807
/-- a value lies, its items as J says -/
def VTop (W : World) (v : V) (x : It) (J : V → It → Prop) : Prop :=
  v.fine ∧ x.k = v.k ∧ x.n = v.n ∧ x.s = v.s ∧ ∃ ys : List It, ys.length = v.l.length ∧ Lies W (.slice x.p x.m x.c) ys.length 4 (itsCells ys) ∧ ∀ (i : Nat) (h : i < ys.length) (h' : i < v.l.length), J v.l[i] ys[i]
def VAt : Nat → World → V → It → Prop
  | 0, W, v, x => VTop W v x (fun _ _ => False)
  | d + 1, W, v, x => VTop W v x (VAt d W)
/-- the items of a value of this depth -/
def VIn : Nat → World → V → It → Prop
  | 0, _ => fun _ _ => False
  | d + 1, W => VAt d W
theorem VAt.top {d : Nat} {W : World} {v : V} {x : It} (h : VAt d W v x) : VTop W v x (VIn d W) := by cases d <;> exact h
theorem VTop.mono {W W' : World} {v : V} {x : It} {J J' : V → It → Prop} (h : VTop W v x J) (hb : Below W.heap.size W W') (hJ : ∀ v x, J v x → J' v x) : VTop W' v x J' := by
  obtain ⟨h0, h1, h2, h3, ys, h4, h5, h6⟩ := h
  exact ⟨h0, h1, h2, h3, ys, h4, h5.below hb, fun i a b => hJ _ _ (h6 i a b)⟩
theorem VTop.len {W : World} {v : V} {x : It} {J : V → It → Prop} (h : VTop W v x J) : x.m = v.l.length := by
  obtain ⟨h0, h1, h2, h3, ys, h4, h5, h6⟩ := h
  rcases h5.2 with ⟨e, p, c, hv⟩ | ⟨b, off, c, hv, _⟩
  · injection hv with _ h _; omega
  · injection hv with _ h _; omega
theorem VTop.room {W : World} {v : V} {x : It} {J : V → It → Prop} (h : VTop W v x J) : x.m ≤ 9223372036854775807 := by
  rw [h.len]; exact h.1.l
theorem VAt.below : ∀ {d : Nat} {W W' : World} {v : V} {x : It}, VAt d W v x → Below W.heap.size W W' → VAt d W' v x
  | 0, _, _, _, _, h, hb => VTop.mono h hb (fun _ _ h => h)
  | d + 1, _, _, _, _, h, hb => VTop.mono h hb (fun _ _ h => VAt.below h hb)
theorem VIn.below {d : Nat} {W W' : World} {v : V} {x : It} (h : VIn d W v x) (hb : Below W.heap.size W W') : VIn d W' v x := by
  cases d with
  | zero => exact h
  | succ d => exact VAt.below h hb

/-- two lists, item by item -/
def cmpL (f : V → V → Int) : List V → List V → Int
  | [], [] => 0
  | [], _ :: _ => -1
  | _ :: _, [] => 1
  | x :: xs, y :: ys => if f x y = 0 then cmpL f xs ys else f x y
def cmpV : Nat → V → V → Int
  | 0, a, b => orI [ordI a.k b.k, ordI a.n b.n, ordS a.s b.s, cmpL (fun _ _ => 0) a.l b.l]
  | d + 1, a, b => orI [ordI a.k b.k, ordI a.n b.n, ordS a.s b.s, cmpL (cmpV d) a.l b.l]
def cmpIn : Nat → V → V → Int
  | 0 => fun _ _ => 0
  | d + 1 => cmpV d
theorem cmpV_top (d : Nat) (a b : V) : cmpV d a b = orI [ordI a.k b.k, ordI a.n b.n, ordS a.s b.s, cmpL (cmpIn d) a.l b.l] := by cases d <;> rfl

theorem cmpL_end (f : V → V → Int) : ∀ (a b : List V) (k : Nat), k ≤ a.length → k ≤ b.length → (k = a.length ∨ k = b.length) → cmpL f (a.drop k) (b.drop k) = ordI a.length b.length := by
  intro a b k h1 h2 h3
  rcases h3 with rfl | rfl
  · rw [List.drop_length]
    rcases Nat.lt_or_ge a.length b.length with h | h
    · obtain ⟨y, ys, hy⟩ : ∃ y ys, b.drop a.length = y :: ys := ⟨_, _, List.drop_eq_getElem_cons h⟩
      rw [hy]
      unfold ordI
      rw [if_pos (by omega)]; rfl
    · have e : b.drop a.length = [] := List.drop_eq_nil_of_le h
      rw [e]
      unfold ordI
      rw [if_neg (by omega), if_neg (by omega)]; rfl
  · rw [List.drop_length]
    rcases Nat.lt_or_ge b.length a.length with h | h
    · obtain ⟨y, ys, hy⟩ : ∃ y ys, a.drop b.length = y :: ys := ⟨_, _, List.drop_eq_getElem_cons h⟩
      rw [hy]
      unfold ordI
      rw [if_neg (by omega), if_pos (by omega)]; rfl
    · have e : a.drop b.length = [] := List.drop_eq_nil_of_le h
      rw [e]
      unfold ordI
      rw [if_neg (by omega), if_neg (by omega)]; rfl

theorem cmpL_step (f : V → V → Int) (a b : List V) (k : Nat) (h1 : k < a.length) (h2 : k < b.length) : cmpL f (a.drop k) (b.drop k) = if f a[k] b[k] = 0 then cmpL f (a.drop (k + 1)) (b.drop (k + 1)) else f a[k] b[k] := by
  rw [List.drop_eq_getElem_cons h1, List.drop_eq_getElem_cons h2]
  rfl

theorem cell_four {W : World} {b off k : Nat} {x : It} (h : ∀ (j : Nat) (u : Value), (x.cells)[j]? = some u → W.cell? ⟨b, off + k * 4 + j, none⟩ = some u) :
    W.cell? ⟨b, off + k * 4, none⟩ = some (.int .i64 x.k) ∧ W.cell? ⟨b, off + k * 4 + 1, none⟩ = some (.int .i64 x.n) ∧ W.cell? ⟨b, off + k * 4 + 2, none⟩ = some (.string x.s) ∧ W.cell? ⟨b, off + k * 4 + 3, none⟩ = some (.slice x.p x.m x.c) :=
  ⟨h 0 _ rfl, h 1 _ rfl, h 2 _ rfl, h 3 _ rfl⟩

/-- Compare's contract at a depth -/
def CmpAt (d : Nat) : Prop := ∀ (u v : V) (x y : It) (W : World), VIn d W u x → VIn d W v y →
  Calls Tryz.prog 36 #[x.v, y.v] W fun e W' => e = .returned (.int .i64 (cmpIn d u v)) ∧ Below W.heap.size W W'

set_option maxHeartbeats 4000000 in
set_option maxRecDepth 100000 in
theorem lists_some (d : Nat) (hC : CmpAt d) (b off c b' off' c' : Nat) (us vs : List V) (xs ys : List It) (hx : xs.length = us.length) (hy : ys.length = vs.length) (hxm : xs.length ≤ 9223372036854775807) (hym : ys.length ≤ 9223372036854775807)
    (w : World) (hb : b < w.heap.size) (hb' : b' < w.heap.size)
    (h1 : ∀ (i : Nat) (h : i < xs.length) (j : Nat) (u : Value), (xs[i].cells)[j]? = some u → w.cell? ⟨b, off + i * 4 + j, none⟩ = some u)
    (h2 : ∀ (i : Nat) (h : i < ys.length) (j : Nat) (u : Value), (ys[i].cells)[j]? = some u → w.cell? ⟨b', off' + i * 4 + j, none⟩ = some u)
    (j1 : ∀ (i : Nat) (h : i < xs.length) (h' : i < us.length), VIn d w us[i] xs[i]) (j2 : ∀ (i : Nat) (h : i < ys.length) (h' : i < vs.length), VIn d w vs[i] ys[i]) :
    Calls Tryz.prog 69 #[.slice (some ⟨b, off, none⟩) xs.length c, .slice (some ⟨b', off', none⟩) ys.length c', .func (.func 36) #[] #[]] w fun e w' => e = .returned (.int .i64 (cmpL (cmpIn d) us vs)) ∧ Below w.heap.size w w' := by
  have H1 := Lib.hid h1; clear h1
  have H2 := Lib.hid h2; clear h2
  have J1 := Lib.hid j1; clear j1
  have J2 := Lib.hid j2; clear j2
  have HX := Lib.hid hx; clear hx
  have HY := Lib.hid hy; clear hy
  generalize hr : cmpL (cmpIn d) us vs = r
  have HR := Lib.hid hr; clear hr
  go_enter Tryz.func69, Tryz.ntmps69
  obtain ⟨M, hM, hM1, hM2, hM3⟩ : ∃ M : Nat, (if (xs.length : Int) < (ys.length : Int) then (xs.length : Int) else (ys.length : Int)) = (M : Int) ∧ M ≤ xs.length ∧ M ≤ ys.length ∧ (M = xs.length ∨ M = ys.length) := by
    by_cases h : xs.length < ys.length
    · exact ⟨xs.length, by rw [if_pos (by omega)], by omega, by omega, .inl rfl⟩
    · exact ⟨ys.length, by rw [if_neg (by omega)], by omega, by omega, .inr rfl⟩
  go_wp2_with fail
  go_loopw [14] (fun i wr => ∃ k : Nat, k ≤ M ∧ i = .int .i64 (k : Int) ∧ cmpL (cmpIn d) (us.drop k) (vs.drop k) = r ∧ Below w.heap.size w wr) (fun i _ => M - (intOf i).toNat)
  case atStart => exact ⟨0, by omega, rfl, HR.out, Below.refl _ _⟩
  case round =>
    obtain ⟨k, hk, rfl, he, hB⟩ := hrel
    have HE := Lib.hid he; clear he
    have hz : w.heap.size ≤ wr.heap.size := hB.size
    by_cases hlt : k < M
    · have hkx : k < xs.length := by omega
      have hky : k < ys.length := by omega
      have hku : k < us.length := by rw [← HX.out]; exact hkx
      have hkv : k < vs.length := by rw [← HY.out]; exact hky
      obtain ⟨x, hx⟩ : ∃ x, xs[k] = x := ⟨_, rfl⟩
      obtain ⟨y, hy⟩ : ∃ y, ys[k] = y := ⟨_, rfl⟩
      have hx1 : VIn d wr us[k] x := by rw [← hx]; exact (J1.out k hkx hku).below hB
      have hy1 : VIn d wr vs[k] y := by rw [← hy]; exact (J2.out k hky hkv).below hB
      obtain ⟨c0, c1, c2, c3⟩ := cell_four (W := wr) (b := b) (off := off) (k := k) (x := x) (fun j u hu => by
        rw [hB.cell (p := ⟨b, off + k * 4 + j, none⟩) hb]; exact H1.out k hkx j u (by rw [hx]; exact hu))
      obtain ⟨e0, e1, e2, e3⟩ := cell_four (W := wr) (b := b') (off := off') (k := k) (x := y) (fun j u hu => by
        rw [hB.cell (p := ⟨b', off' + k * 4 + j, none⟩) hb']; exact H2.out k hky j u (by rw [hy]; exact hu))
      have hstep := cmpL_step (cmpIn d) us vs k hku hkv
      obtain ⟨q, hq⟩ : ∃ q, cmpIn d us[k] vs[k] = q := ⟨_, rfl⟩
      rw [hq] at hstep
      have hcc : ∀ W, Below wr.heap.size wr W → Calls Tryz.prog 36 #[x.v, y.v] W fun e W' => e = .returned (.int .i64 q) ∧ Below wr.heap.size wr W' := fun W hW => by
        rw [← hq]
        refine (hC _ _ x y W (hx1.below hW) (hy1.below hW)).mono ?_
        rintro e W' ⟨rfl, h⟩
        exact ⟨rfl, hW.trans (h.mono hW.size)⟩
      have HST := Lib.hid hstep
      have HCC := Lib.hid hcc
      clear hstep hcc hx hy hq hx1 hy1
      have d0 : (0 : Int) ≤ (k : Int) := by omega
      have d1 : (k : Int) < (xs.length : Int) := by omega
      have d2 : (k : Int) < (ys.length : Int) := by omega
      have d3 : (k : Int) < (M : Int) := by omega
      have hS : (fun W' : World => W'.cell? ⟨b, off + k * 4, none⟩ = some (.int .i64 x.k) ∧ W'.cell? ⟨b, off + k * 4 + 1, none⟩ = some (.int .i64 x.n) ∧ W'.cell? ⟨b, off + k * 4 + 2, none⟩ = some (.string x.s) ∧ W'.cell? ⟨b, off + k * 4 + 3, none⟩ = some (.slice x.p x.m x.c) ∧ W'.cell? ⟨b', off' + k * 4, none⟩ = some (.int .i64 y.k) ∧ W'.cell? ⟨b', off' + k * 4 + 1, none⟩ = some (.int .i64 y.n) ∧ W'.cell? ⟨b', off' + k * 4 + 2, none⟩ = some (.string y.s) ∧ W'.cell? ⟨b', off' + k * 4 + 3, none⟩ = some (.slice y.p y.m y.c)) wr := ⟨c0, c1, c2, c3, e0, e1, e2, e3⟩
      have hsw : ∀ W', Below wr.heap.size wr W' → W'.cell? ⟨b, off + k * 4, none⟩ = some (.int .i64 x.k) ∧ W'.cell? ⟨b, off + k * 4 + 1, none⟩ = some (.int .i64 x.n) ∧ W'.cell? ⟨b, off + k * 4 + 2, none⟩ = some (.string x.s) ∧ W'.cell? ⟨b, off + k * 4 + 3, none⟩ = some (.slice x.p x.m x.c) ∧ W'.cell? ⟨b', off' + k * 4, none⟩ = some (.int .i64 y.k) ∧ W'.cell? ⟨b', off' + k * 4 + 1, none⟩ = some (.int .i64 y.n) ∧ W'.cell? ⟨b', off' + k * 4 + 2, none⟩ = some (.string y.s) ∧ W'.cell? ⟨b', off' + k * 4 + 3, none⟩ = some (.slice y.p y.m y.c) := fun W' h => by
        have g : ∀ (p : Addr) (v : Value), p.block < wr.heap.size → wr.cell? p = some v → W'.cell? p = some v := fun p v hp hv => (h.cell hp).trans hv
        exact ⟨g _ _ (by simpa using Nat.lt_of_lt_of_le hb hz) c0, g _ _ (by simpa using Nat.lt_of_lt_of_le hb hz) c1, g _ _ (by simpa using Nat.lt_of_lt_of_le hb hz) c2, g _ _ (by simpa using Nat.lt_of_lt_of_le hb hz) c3, g _ _ (by simpa using Nat.lt_of_lt_of_le hb' hz) e0, g _ _ (by simpa using Nat.lt_of_lt_of_le hb' hz) e1, g _ _ (by simpa using Nat.lt_of_lt_of_le hb' hz) e2, g _ _ (by simpa using Nat.lt_of_lt_of_le hb' hz) e3⟩
      have HSW := Lib.hid hsw; clear hsw
      go_wp2_with fail
      go_region_held3 (fun W' : World => W'.cell? ⟨b, off + k * 4, none⟩ = some (.int .i64 x.k) ∧ W'.cell? ⟨b, off + k * 4 + 1, none⟩ = some (.int .i64 x.n) ∧ W'.cell? ⟨b, off + k * 4 + 2, none⟩ = some (.string x.s) ∧ W'.cell? ⟨b, off + k * 4 + 3, none⟩ = some (.slice x.p x.m x.c) ∧ W'.cell? ⟨b', off' + k * 4, none⟩ = some (.int .i64 y.k) ∧ W'.cell? ⟨b', off' + k * 4 + 1, none⟩ = some (.int .i64 y.n) ∧ W'.cell? ⟨b', off' + k * 4 + 2, none⟩ = some (.string y.s) ∧ W'.cell? ⟨b', off' + k * 4 + 3, none⟩ = some (.slice y.p y.m y.c))
        (first | assumption | exact HSW.out _ (by assumption))
        (first | (go_at_call 36; (refine (HCC.out _ (Below.refl _ wr).drew).mono ?_); rintro e W1 ⟨rfl, hB1⟩))
      have hBW : Below w.heap.size w W1 := hB.trans (hB1.mono hz)
      by_cases h0 : q = 0
      · have d4 : (q == 0) = true := by rw [beq_iff_eq]; exact h0
        have hn : cmpL (cmpIn d) (us.drop (k + 1)) (vs.drop (k + 1)) = r := by rw [← HE.out, HST.out, if_pos h0]
        have HN := Lib.hid hn; clear hn
        have H0 := Lib.hid h0; clear h0
        go_wp2_with fail
        exact ⟨⟨k + 1, by omega, by go_num, HN.out, hBW⟩, by simp [intOf]; omega⟩
      · have d4 : (q == 0) = false := by rw [beq_eq_false_iff_ne]; exact h0
        have hn : r = q := by rw [← HE.out, HST.out, if_neg h0]
        have HN := Lib.hid hn; clear hn
        go_wp2_with fail
        go_ret
        exact ⟨by rw [HN.out]; rfl, hBW⟩
    · obtain rfl : k = M := by omega
      have hrr : r = ordI us.length vs.length := by rw [← HE.out]; exact cmpL_end _ us vs k (by rw [← HX.out]; exact hM1) (by rw [← HY.out]; exact hM2) (by rw [← HX.out, ← HY.out]; exact hM3)
      rw [← HX.out, ← HY.out] at hrr
      have HRR := Lib.hid hrr; clear hrr
      go_wp2_with (go_at_call 67; refine (cmpInt_any _ _ _).mono ?_; rintro e w1 ⟨rfl, rfl⟩)
      go_ret
      exact ⟨by rw [HRR.out]; rfl, hB⟩
end Go.Proofs.YtffoklhopmhjaaaGreatDoor

/- val.compareLists, val.Compare. -/
import Derived.Deep.RegionHeld3
import Derived.Test.YtffoklhopmhjaaaDoorValSmall
import Derived.Test.YtffoklhopmhjaaaDoorValList
set_option linter.unusedSimpArgs false
set_option linter.unusedVariables false
namespace Go.Proofs.YtffoklhopmhjaaaDoor
open Go Go.RowKit Go.Shelf

/-- a value -/
inductive V where
  | mk (k n : Int) (s : ByteArray) (l : List V)
def V.k : V → Int | .mk k _ _ _ => k
def V.n : V → Int | .mk _ n _ _ => n
def V.s : V → ByteArray | .mk _ _ s _ => s
def V.l : V → List V | .mk _ _ _ l => l

/-- what every value of Go's keeps -/
structure V.fine (v : V) : Prop where
  k : -9223372036854775808 ≤ v.k ∧ v.k ≤ 9223372036854775807
  n : -9223372036854775808 ≤ v.n ∧ v.n ≤ 9223372036854775807
  s : v.s.size ≤ 9223372036854775807
  l : v.l.length ≤ 9223372036854775807
/-- a value lies, its items as J says -/
def VTop (W : World) (v : V) (x : It) (J : V → It → Prop) : Prop :=
  v.fine ∧ x.k = v.k ∧ x.n = v.n ∧ x.s = v.s ∧ ∃ ys : List It, ys.length = v.l.length ∧ Lies W (.slice x.p x.m x.c) ys.length 4 (itsCells ys) ∧ ∀ (i : Nat) (h : i < ys.length) (h' : i < v.l.length), J v.l[i] ys[i]
def VAt : Nat → World → V → It → Prop
  | 0, W, v, x => VTop W v x (fun _ _ => False)
  | d + 1, W, v, x => VTop W v x (VAt d W)
/-- the items of a value of this depth -/
def VIn : Nat → World → V → It → Prop
  | 0, _ => fun _ _ => False
  | d + 1, W => VAt d W
theorem VAt.top {d : Nat} {W : World} {v : V} {x : It} (h : VAt d W v x) : VTop W v x (VIn d W) := by cases d <;> exact h
theorem VTop.mono {W W' : World} {v : V} {x : It} {J J' : V → It → Prop} (h : VTop W v x J) (hb : Below W.heap.size W W') (hJ : ∀ v x, J v x → J' v x) : VTop W' v x J' := by
  obtain ⟨h0, h1, h2, h3, ys, h4, h5, h6⟩ := h
  exact ⟨h0, h1, h2, h3, ys, h4, h5.below hb, fun i a b => hJ _ _ (h6 i a b)⟩
theorem VTop.len {W : World} {v : V} {x : It} {J : V → It → Prop} (h : VTop W v x J) : x.m = v.l.length := by
  obtain ⟨h0, h1, h2, h3, ys, h4, h5, h6⟩ := h
  rcases h5.2 with ⟨e, p, c, hv⟩ | ⟨b, off, c, hv, _⟩
  · injection hv with _ h _; omega
  · injection hv with _ h _; omega
theorem VTop.room {W : World} {v : V} {x : It} {J : V → It → Prop} (h : VTop W v x J) : x.m ≤ 9223372036854775807 := by
  rw [h.len]; exact h.1.l
theorem VAt.below : ∀ {d : Nat} {W W' : World} {v : V} {x : It}, VAt d W v x → Below W.heap.size W W' → VAt d W' v x
  | 0, _, _, _, _, h, hb => VTop.mono h hb (fun _ _ h => h)
  | d + 1, _, _, _, _, h, hb => VTop.mono h hb (fun _ _ h => VAt.below h hb)
theorem VIn.below {d : Nat} {W W' : World} {v : V} {x : It} (h : VIn d W v x) (hb : Below W.heap.size W W') : VIn d W' v x := by
  cases d with
  | zero => exact h
  | succ d => exact VAt.below h hb

/-- two lists, item by item -/
def cmpL (f : V → V → Int) : List V → List V → Int
  | [], [] => 0
  | [], _ :: _ => -1
  | _ :: _, [] => 1
  | x :: xs, y :: ys => if f x y = 0 then cmpL f xs ys else f x y
def cmpV : Nat → V → V → Int
  | 0, a, b => orI [ordI a.k b.k, ordI a.n b.n, ordS a.s b.s, cmpL (fun _ _ => 0) a.l b.l]
  | d + 1, a, b => orI [ordI a.k b.k, ordI a.n b.n, ordS a.s b.s, cmpL (cmpV d) a.l b.l]
def cmpIn : Nat → V → V → Int
  | 0 => fun _ _ => 0
  | d + 1 => cmpV d
theorem cmpV_top (d : Nat) (a b : V) : cmpV d a b = orI [ordI a.k b.k, ordI a.n b.n, ordS a.s b.s, cmpL (cmpIn d) a.l b.l] := by cases d <;> rfl

theorem cmpL_end (f : V → V → Int) : ∀ (a b : List V) (k : Nat), k ≤ a.length → k ≤ b.length → (k = a.length ∨ k = b.length) → cmpL f (a.drop k) (b.drop k) = ordI a.length b.length := by
  intro a b k h1 h2 h3
  rcases h3 with rfl | rfl
  · rw [List.drop_length]
    rcases Nat.lt_or_ge a.length b.length with h | h
    · obtain ⟨y, ys, hy⟩ : ∃ y ys, b.drop a.length = y :: ys := ⟨_, _, List.drop_eq_getElem_cons h⟩
      rw [hy]
      unfold ordI
      rw [if_pos (by omega)]; rfl
    · have e : b.drop a.length = [] := List.drop_eq_nil_of_le h
      rw [e]
      unfold ordI
      rw [if_neg (by omega), if_neg (by omega)]; rfl
  · rw [List.drop_length]
    rcases Nat.lt_or_ge b.length a.length with h | h
    · obtain ⟨y, ys, hy⟩ : ∃ y ys, a.drop b.length = y :: ys := ⟨_, _, List.drop_eq_getElem_cons h⟩
      rw [hy]
      unfold ordI
      rw [if_neg (by omega), if_pos (by omega)]; rfl
    · have e : a.drop b.length = [] := List.drop_eq_nil_of_le h
      rw [e]
      unfold ordI
      rw [if_neg (by omega), if_neg (by omega)]; rfl

theorem cmpL_step (f : V → V → Int) (a b : List V) (k : Nat) (h1 : k < a.length) (h2 : k < b.length) : cmpL f (a.drop k) (b.drop k) = if f a[k] b[k] = 0 then cmpL f (a.drop (k + 1)) (b.drop (k + 1)) else f a[k] b[k] := by
  rw [List.drop_eq_getElem_cons h1, List.drop_eq_getElem_cons h2]
  rfl

theorem cell_four {W : World} {b off k : Nat} {x : It} (h : ∀ (j : Nat) (u : Value), (x.cells)[j]? = some u → W.cell? ⟨b, off + k * 4 + j, none⟩ = some u) :
    W.cell? ⟨b, off + k * 4, none⟩ = some (.int .i64 x.k) ∧ W.cell? ⟨b, off + k * 4 + 1, none⟩ = some (.int .i64 x.n) ∧ W.cell? ⟨b, off + k * 4 + 2, none⟩ = some (.string x.s) ∧ W.cell? ⟨b, off + k * 4 + 3, none⟩ = some (.slice x.p x.m x.c) :=
  ⟨h 0 _ rfl, h 1 _ rfl, h 2 _ rfl, h 3 _ rfl⟩

end Go.Proofs.YtffoklhopmhjaaaDoor

/- A range over a function whose iterator keeps a place of its own in memory: the caller and the iterator share what holds at each call of yield. -/
import Derived.RangeFuncBox
import Derived.RangeFuncBound
import Derived.RangeFuncCalls
import Derived.RangeFuncLeaves
import Derived.Deep.Quiet
set_option linter.unusedSimpArgs false
set_option linter.unusedVariables false
namespace Go.Proofs.YtffoklhopmhjaaaGreatDoor
open Go Go.RowKit
variable {F : Fence} {n : Nat} {P : Program}

/-- the loop's own objects: its record, and the block for its deferred calls -/
def book : Obj → Bool
  | .loop _ => true
  | .deferred _ => true
  | _ => false

/-- what is said of the loop's own objects abides whatever turns others -/
def KeptBook (K : World → Prop) : Prop :=
  ∀ A B row, K A → A.grownBy B row → (∀ r, row = some r → ∃ o, A.heap[r]? = some o ∧ book o = false) → K B

theorem book_of_cells {o : Obj} (h : o.isCells = true) : book o = false := by cases o <;> simp_all [Obj.isCells, book]

theorem KeptBook.alloc {K : World → Prop} (h : KeptBook K) {W : World} (hK : K W) (o : Obj) : K (W.alloc o) :=
  h W _ none hK (World.grownBy_alloc W o none) (fun r e => by cases e)
theorem KeptBook.drewN {K : World → Prop} (h : KeptBook K) {W : World} (hK : K W) (m : Nat) : K (W.drewN m) :=
  h W _ none hK ⟨rfl, rfl, rfl, Nat.le_refl _, fun _ _ _ => rfl⟩ (fun r e => by cases e)
theorem KeptBook.setCell {K : World → Prop} (h : KeptBook K) {W : World} (hK : K W) {a : Addr} {v : Value} (hc : W.cell? a = some v) (u : Value) : K (W.setCell a u) := by
  obtain ⟨o, ho, hcell⟩ := cells_of_cell hc
  refine h W _ (some a.block) hK ⟨rfl, rfl, rfl, by simp, fun k _ hk => Below.heap_setCell _ _ _ k (fun e => hk (by rw [e]))⟩ ?_
  intro r e
  cases e
  exact ⟨o, ho, book_of_cells hcell⟩

/-- how a round may be left -/
def jointPost {β : Type} (B : Nat) (Ig : β → World → Prop) (Ix : Code → β → World → Prop) (s : β) (W : World) : Exit → Act → World → Prop
  | .normal, _, W' => KeepsFrom B W W' ∧ Ig s W'
  | .ret, _, W' => KeepsFrom B W W' ∧ Ix .ret s W'
  | .exit id, _, W' => KeepsFrom B W W' ∧ Ix (.exit id) s W'
  | .goto t, _, W' => KeepsFrom B W W' ∧ Ix (.goto t) s W'
  | .panic _, _, _ => False
  | .outgrown, _, _ => False

theorem keptBook_two (l : Nat) (o o' : Obj) (D : Nat) (hb : book o = true) (hb' : book o' = true) : KeptBook (fun W => W.heap[l]? = some o ∧ W.heap[D]? = some o') := by
  rintro A B row ⟨h1, h2⟩ hg hr
  have keep : ∀ k x, A.heap[k]? = some x → book x = true → B.heap[k]? = some x := fun k x hk hx => by
    refine (hg.block k (Array.getElem?_eq_some_iff.1 hk).1 ?_).trans hk
    intro e
    obtain ⟨y, hy, hny⟩ := hr k e.symm
    rw [hk] at hy; cases hy; rw [hx] at hny; cases hny
  exact ⟨keep _ _ h1 hb, keep _ _ h2 hb'⟩

theorem wpIn_rangeFunc_joint {β : Type} {g : Operand} {ps : Array Tmp} {assign body : Code} {Q : Exit → Act → World → Prop} {a : Act} {w : World}
    (hro : F.round = none) (h1 : 1 ≤ n) {gf : Nat} {lb : Array Value} (hg : a.eval g = .func (.func gf) #[] lb) (hFg : F.fn gf) (eg : ∀ args w, (callFunc gf args).run P w = .ok (.enter gf args) w)
    (encs : β → Array Value) (hps : ∀ s, (encs s).size = ps.size)
    (Ib Ig : β → World → Prop) (Ix : Code → β → World → Prop) (Id : Unit → World → Prop)
    (hIb : OwnFrom w.heap.size Ib) (hIg : OwnFrom w.heap.size Ig) (hIx : ∀ c, OwnFrom w.heap.size (Ix c)) (hId : OwnFrom w.heap.size Id) (a₁ : β → Act)
    (hassign : ∀ (l : Nat) (s : β) (W : World) (K : Act → World → Prop), K (a₁ s) W →
      assign.wpIn (F.inRound l) (n - 1 - 1) P (Exit.then K (fun _ _ _ => False)) { tmps := (ps.zip (encs s)).foldl (fun t (p, v) => t.setIfInBounds p v) a.tmps, defers := [] } W)
    (hbody : ∀ (l : Nat) (s : β) (W : World), Ib s W → body.wpIn (F.inRound l) (n - 1 - 1) P (jointPost w.heap.size Ig Ix s W) (a₁ s) W)
    (hseq : ∀ (l : Nat) (K Jx : World → Prop) (W : World), KeptBook K → K W → w.grownBy W none →
      (∀ s W1, Ib s W1 → K W1 → YieldAt F (n - 1 - 1) P l (encs s) W1 fun e W' => (e = .returned (.bool true) ∧ Ig s W' ∧ K W') ∨ (e = .returned (.bool false) ∧ Jx W')) →
      CallsIn F (n - 1) P gf (#[.func (.yield l) #[] #[]] ++ lb) W fun e W' => (∃ v, e = .returned v) ∧ ((Id () W' ∧ K W') ∨ Jx W'))
    (hdone : ∀ (D : Nat) (W : World), w.heap.size ≤ D → Id () W → W.heap[D]? = some (.deferred (some [])) → Q .normal { a with defers := { target := .collected D, args := #[] } :: a.defers } W)
    (hstop : ∀ (D : Nat) (c : Code) (s : β) (W : World), w.heap.size ≤ D → Ix c s W → W.heap[D]? = some (.deferred (some [])) → c.wpIn F n P Q { a with defers := { target := .collected D, args := #[] } :: a.defers } W) :
    (Code.rangeFunc g ps assign body).wpIn F n P Q a w := by
  refine wpIn_rangeFunc (fun fn hfn => ?_)
  rw [hro]
  let lp : LoopState → Option Code → Loop := fun st pe => { state := st, pending := pe, fn, tmps := a.tmps, params := ps, assign, body, defers := w.heap.size }
  let L := w.heap.size + 1
  let W1 := (w.alloc (.deferred (some []))).alloc (.loop (lp .ready none))
  have hg1 : w.grownBy W1 none := by
    refine ⟨rfl, rfl, rfl, by simp [W1]; omega, fun k hk _ => ?_⟩
    show ((w.alloc _).alloc _).heap[k]? = _
    rw [Below.heap_alloc _ _ k (by simp; omega), Below.heap_alloc _ _ k hk]
  have hl1 : W1.heap[L]? = some (.loop (lp .ready none)) := by
    have := World.alloc_heap_new (w.alloc (.deferred (some []))) (.loop (lp .ready none))
    rwa [World.size_alloc] at this
  have hd1 : W1.heap[w.heap.size]? = some (.deferred (some [])) :=
    (Below.heap_alloc _ _ _ (by simp)).trans (World.alloc_heap_new w _)
  refine ⟨L, [{ target := .collected w.heap.size, args := #[] }], W1, { target := .fn (.func gf) lb, args := #[.func (.yield L) #[] #[]] }, W1, gf,
    #[.func (.yield L) #[] #[]] ++ lb, W1, run_enterLoop_outer _ _ _ _ _, ?_, ?_, ?_, fun _ => h1, ?_⟩
  · simp only [resolve, hg]; simp [go_sem]
  · intro f' hf'; simp [Target.leads] at hf'; subst hf'; exact hFg
  · simp [invoke, go_sem, eg]
  let K : World → Prop := fun W => W.heap[L]? = some (.loop (lp .ready none)) ∧ W.heap[w.heap.size]? = some (.deferred (some []))
  let Jx : World → Prop := fun W => ∃ c s, Ix c s W ∧ W.heap[L]? = some (.loop (lp .done (some c))) ∧ W.heap[w.heap.size]? = some (.deferred (some []))
  refine (hseq L K Jx W1 (keptBook_two _ _ _ _ rfl rfl) ⟨hl1, hd1⟩ hg1 ?_).mono ?_
  · rintro s W hb ⟨hl, hd⟩
    have hlt : L < W.heap.size := (Array.getElem?_eq_some_iff.1 hl).1
    refine ⟨fn, _, assign, body, run_yield (r := lp .ready none) hl (hps s), roundIn_of_wpIn hfn (hassign L s W _ ⟨_, run_beginRound (r := lp .ready none) hl rfl, ?_⟩)⟩
    let W2 := W.putObj L (.loop (lp .busy none))
    have hl2 : W2.heap[L]? = some (.loop (lp .busy none)) := World.putObj_heap_same hlt
    have hd2 : W2.heap[w.heap.size]? = some (.deferred (some [])) := (World.putObj_heap_other (by simp [L])).trans hd
    refine wpIn_mono (hbody L s W2 (hIb.putObj _ hb (by simp [L]) hl rfl)) ?_
    have after : ∀ (jump : Option Code) (W3 : World), KeepsFrom w.heap.size W2 W3 →
        ∃ W4, (Instr.endRound L jump).run P W3 = .ok (.bool jump.isNone) W4 ∧ W4 = W3.putObj L (.loop (lp (if jump.isNone then .ready else .done) jump)) ∧
          W3.heap[L]? = some (.loop (lp .busy none)) ∧ W4.heap[L]? = some (.loop (lp (if jump.isNone then .ready else .done) jump)) ∧ W4.heap[w.heap.size]? = some (.deferred (some [])) := by
      intro jump W3 hk
      have hl3 := hk.same _ _ (by simp [L]) hl2 rfl
      have hd3 := hk.same _ _ (Nat.le_refl _) hd2 rfl
      exact ⟨_, run_endRound (r := lp .busy none) jump hl3, rfl, hl3, World.putObj_heap_same (Array.getElem?_eq_some_iff.1 hl3).1, (World.putObj_heap_other (by simp [L])).trans hd3⟩
    rintro e a3 W3 hp
    cases e with
    | normal =>
      obtain ⟨hk, hi⟩ := hp
      obtain ⟨W4, hr, rfl, hl3, hl4, hd4⟩ := after none W3 hk
      exact ⟨_, _, hr, .inl ⟨rfl, hIg.putObj _ hi (by simp [L]) hl3 rfl, hl4, hd4⟩⟩
    | ret =>
      obtain ⟨hk, hi⟩ := hp
      obtain ⟨W4, hr, rfl, hl3, hl4, hd4⟩ := after (some .ret) W3 hk
      exact ⟨_, _, hr, .inr ⟨rfl, .ret, s, (hIx _).putObj _ hi (by simp [L]) hl3 rfl, hl4, hd4⟩⟩
    | exit id =>
      obtain ⟨hk, hi⟩ := hp
      obtain ⟨W4, hr, rfl, hl3, hl4, hd4⟩ := after (some (.exit id)) W3 hk
      exact ⟨_, _, hr, .inr ⟨rfl, .exit id, s, (hIx _).putObj _ hi (by simp [L]) hl3 rfl, hl4, hd4⟩⟩
    | goto t =>
      obtain ⟨hk, hi⟩ := hp
      obtain ⟨W4, hr, rfl, hl3, hl4, hd4⟩ := after (some (.goto t)) W3 hk
      exact ⟨_, _, hr, .inr ⟨rfl, .goto t, s, (hIx _).putObj _ hi (by simp [L]) hl3 rfl, hl4, hd4⟩⟩
    | panic ch => exact hp.elim
    | outgrown => exact hp.elim
  · rintro e W2 ⟨⟨v, rfl⟩, (⟨hi, hl, hd⟩ | ⟨c, s, hi, hl, hd⟩)⟩
    · exact ⟨none, _, run_endLoop (r := lp .ready none) hl (by simp [lp]), hdone _ _ (Nat.le_refl _) (hId.putObj _ hi (by simp [L]) hl rfl) ((World.putObj_heap_other (by simp [L])).trans hd)⟩
    · exact ⟨some c, _, run_endLoop (r := lp .done (some c)) hl (by simp [lp]), hstop _ c s _ (Nat.le_refl _) ((hIx c).putObj _ hi (by simp [L]) hl rfl) ((World.putObj_heap_other (by simp [L])).trans hd)⟩
end Go.Proofs.YtffoklhopmhjaaaGreatDoor

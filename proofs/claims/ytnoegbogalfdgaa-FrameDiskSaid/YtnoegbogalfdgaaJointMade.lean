/- XJoint's law, where the round's own variables are made in memory: what the assignment leaves is said of its world. -/
import Derived.Test.YtnoegbogalfdgaaJoint
set_option linter.unusedSimpArgs false
set_option linter.unusedVariables false
namespace Go.Proofs.Ytnoegbogalfdgaa
open Go Go.RowKit
variable {F : Fence} {n : Nat} {P : Program}

theorem wpIn_rangeFunc_made {β : Type} {g : Operand} {ps : Array Tmp} {assign body : Code} {Q : Exit → Act → World → Prop} {a : Act} {w : World}
    (hro : F.round = none) (h1 : 1 ≤ n) {gf : Nat} {lb : Array Value} (hg : a.eval g = .func (.func gf) #[] lb) (hFg : F.fn gf) (eg : ∀ args w, (callFunc gf args).run P w = .ok (.enter gf args) w)
    (encs : β → Array Value) (hps : ∀ s, (encs s).size = ps.size)
    (Ib Ig : β → World → Prop) (Ix : Code → β → World → Prop) (Id : Unit → World → Prop)
    (hIb : OwnFrom w.heap.size Ib) (hIg : OwnFrom w.heap.size Ig) (hIx : ∀ c, OwnFrom w.heap.size (Ix c)) (hId : OwnFrom w.heap.size Id) (A : β → Act → World → Prop) (hA : ∀ a₁, OwnFrom w.heap.size (fun s W => A s a₁ W))
    (hassign : ∀ (l : Nat) (s : β) (W : World) (K : Act → World → Prop), Ib s W → w.heap.size ≤ W.heap.size → (∀ a₁ W1, KeepsFrom w.heap.size W W1 → A s a₁ W1 → K a₁ W1) →
      assign.wpIn (F.inRound l) (n - 1 - 1) P (Exit.then K (fun _ _ _ => False)) { tmps := (ps.zip (encs s)).foldl (fun t (p, v) => t.setIfInBounds p v) a.tmps, defers := [] } W)
    (hbody : ∀ (l : Nat) (s : β) (a₁ : Act) (W : World), A s a₁ W → body.wpIn (F.inRound l) (n - 1 - 1) P (jointPost w.heap.size Ig Ix s W) a₁ W)
    (hseq : ∀ (l : Nat) (K Jx : World → Prop) (W : World), KeptBook K → K W → w.grownBy W none →
      (∀ s W1, Ib s W1 → K W1 → YieldAt F (n - 1 - 1) P l (encs s) W1 fun e W' => (e = .returned (.bool true) ∧ Ig s W' ∧ K W') ∨ (e = .returned (.bool false) ∧ Jx W')) →
      CallsIn F (n - 1) P gf (#[.func (.yield l) #[] #[]] ++ lb) W fun e W' => (∃ v, e = .returned v) ∧ ((Id () W' ∧ K W') ∨ Jx W'))
    (hdone : ∀ (D : Nat) (W : World), w.heap.size ≤ D → Id () W → W.heap[D]? = some (.deferred (some [])) → Q .normal { a with defers := { target := .collected D, args := #[] } :: a.defers } W)
    (hstop : ∀ (D : Nat) (c : Code) (s : β) (W : World), w.heap.size ≤ D → Ix c s W → W.heap[D]? = some (.deferred (some [])) → c.wpIn F n P Q { a with defers := { target := .collected D, args := #[] } :: a.defers } W) :
    (Code.rangeFunc g ps assign body).wpIn F n P Q a w := by
  refine wpIn_rangeFunc (fun fn hfn => ?_)
  rw [hro]
  let lp : LoopState → Option Code → Loop := fun st pe => { state := st, pending := pe, fn, tmps := a.tmps, params := ps, assign, body, defers := w.heap.size }
  let L := w.heap.size + 1
  let W1 := (w.alloc (.deferred (some []))).alloc (.loop (lp .ready none))
  have hg1 : w.grownBy W1 none := by
    refine ⟨rfl, rfl, rfl, by simp [W1]; omega, fun k hk _ => ?_⟩
    show ((w.alloc _).alloc _).heap[k]? = _
    rw [Below.heap_alloc _ _ k (by simp; omega), Below.heap_alloc _ _ k hk]
  have hl1 : W1.heap[L]? = some (.loop (lp .ready none)) := by
    have := World.alloc_heap_new (w.alloc (.deferred (some []))) (.loop (lp .ready none))
    rwa [World.size_alloc] at this
  have hd1 : W1.heap[w.heap.size]? = some (.deferred (some [])) :=
    (Below.heap_alloc _ _ _ (by simp)).trans (World.alloc_heap_new w _)
  refine ⟨L, [{ target := .collected w.heap.size, args := #[] }], W1, { target := .fn (.func gf) lb, args := #[.func (.yield L) #[] #[]] }, W1, gf,
    #[.func (.yield L) #[] #[]] ++ lb, W1, run_enterLoop_outer _ _ _ _ _, ?_, ?_, ?_, fun _ => h1, ?_⟩
  · simp only [resolve, hg]; simp [go_sem]
  · intro f' hf'; simp [Target.leads] at hf'; subst hf'; exact hFg
  · simp [invoke, go_sem, eg]
  let K : World → Prop := fun W => W.heap[L]? = some (.loop (lp .ready none)) ∧ W.heap[w.heap.size]? = some (.deferred (some []))
  let Jx : World → Prop := fun W => ∃ c s, Ix c s W ∧ W.heap[L]? = some (.loop (lp .done (some c))) ∧ W.heap[w.heap.size]? = some (.deferred (some []))
  refine (hseq L K Jx W1 (keptBook_two _ _ _ _ rfl rfl) ⟨hl1, hd1⟩ hg1 ?_).mono ?_
  · rintro s W hb ⟨hl, hd⟩
    have hlt : L < W.heap.size := (Array.getElem?_eq_some_iff.1 hl).1
    refine ⟨fn, _, assign, body, run_yield (r := lp .ready none) hl (hps s), roundIn_of_wpIn hfn (hassign L s W _ hb (by show w.heap.size ≤ W.heap.size; have : L = w.heap.size + 1 := rfl; omega) (fun a₁ W₁ hk₁ hA₁ => ⟨_, run_beginRound (r := lp .ready none) (hk₁.same _ _ (by simp [L]) hl rfl) rfl, ?_⟩))⟩
    have hl' := hk₁.same _ _ (by simp [L]) hl rfl
    have hd' := hk₁.same _ _ (Nat.le_refl _) hd rfl
    have hlt' : L < W₁.heap.size := (Array.getElem?_eq_some_iff.1 hl').1
    let W2 := W₁.putObj L (.loop (lp .busy none))
    have hl2 : W2.heap[L]? = some (.loop (lp .busy none)) := World.putObj_heap_same hlt'
    have hd2 : W2.heap[w.heap.size]? = some (.deferred (some [])) := (World.putObj_heap_other (by simp [L])).trans hd'
    refine wpIn_mono (hbody L s a₁ W2 ((hA a₁).putObj _ hA₁ (by simp [L]) hl' rfl)) ?_
    have after : ∀ (jump : Option Code) (W3 : World), KeepsFrom w.heap.size W2 W3 →
        ∃ W4, (Instr.endRound L jump).run P W3 = .ok (.bool jump.isNone) W4 ∧ W4 = W3.putObj L (.loop (lp (if jump.isNone then .ready else .done) jump)) ∧
          W3.heap[L]? = some (.loop (lp .busy none)) ∧ W4.heap[L]? = some (.loop (lp (if jump.isNone then .ready else .done) jump)) ∧ W4.heap[w.heap.size]? = some (.deferred (some [])) := by
      intro jump W3 hk
      have hl3 := hk.same _ _ (by simp [L]) hl2 rfl
      have hd3 := hk.same _ _ (Nat.le_refl _) hd2 rfl
      exact ⟨_, run_endRound (r := lp .busy none) jump hl3, rfl, hl3, World.putObj_heap_same (Array.getElem?_eq_some_iff.1 hl3).1, (World.putObj_heap_other (by simp [L])).trans hd3⟩
    rintro e a3 W3 hp
    cases e with
    | normal =>
      obtain ⟨hk, hi⟩ := hp
      obtain ⟨W4, hr, rfl, hl3, hl4, hd4⟩ := after none W3 hk
      exact ⟨_, _, hr, .inl ⟨rfl, hIg.putObj _ hi (by simp [L]) hl3 rfl, hl4, hd4⟩⟩
    | ret =>
      obtain ⟨hk, hi⟩ := hp
      obtain ⟨W4, hr, rfl, hl3, hl4, hd4⟩ := after (some .ret) W3 hk
      exact ⟨_, _, hr, .inr ⟨rfl, .ret, s, (hIx _).putObj _ hi (by simp [L]) hl3 rfl, hl4, hd4⟩⟩
    | exit id =>
      obtain ⟨hk, hi⟩ := hp
      obtain ⟨W4, hr, rfl, hl3, hl4, hd4⟩ := after (some (.exit id)) W3 hk
      exact ⟨_, _, hr, .inr ⟨rfl, .exit id, s, (hIx _).putObj _ hi (by simp [L]) hl3 rfl, hl4, hd4⟩⟩
    | goto t =>
      obtain ⟨hk, hi⟩ := hp
      obtain ⟨W4, hr, rfl, hl3, hl4, hd4⟩ := after (some (.goto t)) W3 hk
      exact ⟨_, _, hr, .inr ⟨rfl, .goto t, s, (hIx _).putObj _ hi (by simp [L]) hl3 rfl, hl4, hd4⟩⟩
    | panic ch => exact hp.elim
    | outgrown => exact hp.elim
  · rintro e W2 ⟨⟨v, rfl⟩, (⟨hi, hl, hd⟩ | ⟨c, s, hi, hl, hd⟩)⟩
    · exact ⟨none, _, run_endLoop (r := lp .ready none) hl (by simp [lp]), hdone _ _ (Nat.le_refl _) (hId.putObj _ hi (by simp [L]) hl rfl) ((World.putObj_heap_other (by simp [L])).trans hd)⟩
    · exact ⟨some c, _, run_endLoop (r := lp .done (some c)) hl (by simp [lp]), hstop _ c s _ (Nat.le_refl _) ((hIx c).putObj _ hi (by simp [L]) hl rfl) ((World.putObj_heap_other (by simp [L])).trans hd)⟩

/-- the same, where the caller is walked at 'wp' -/
theorem wp_rangeFunc_made {β : Type} {g : Operand} {ps : Array Tmp} {assign body : Code} {Q : Exit → Act → World → Prop} {a : Act} {w : World}
    (n : Nat) (h1 : 1 ≤ n) {gf : Nat} {lb : Array Value} (hg : a.eval g = .func (.func gf) #[] lb) (eg : ∀ args w, (callFunc gf args).run P w = .ok (.enter gf args) w)
    (encs : β → Array Value) (hps : ∀ s, (encs s).size = ps.size)
    (Ib Ig : β → World → Prop) (Ix : Code → β → World → Prop) (Id : Unit → World → Prop)
    (hIb : OwnFrom w.heap.size Ib) (hIg : OwnFrom w.heap.size Ig) (hIx : ∀ c, OwnFrom w.heap.size (Ix c)) (hId : OwnFrom w.heap.size Id) (A : β → Act → World → Prop) (hA : ∀ a₁, OwnFrom w.heap.size (fun s W => A s a₁ W))
    (hassign : ∀ (l : Nat) (s : β) (W : World) (K : Act → World → Prop), Ib s W → w.heap.size ≤ W.heap.size → (∀ a₁ W1, KeepsFrom w.heap.size W W1 → A s a₁ W1 → K a₁ W1) →
      assign.wpIn (Fence.wide.inRound l) (n - 1 - 1) P (Exit.then K (fun _ _ _ => False)) { tmps := (ps.zip (encs s)).foldl (fun t (p, v) => t.setIfInBounds p v) a.tmps, defers := [] } W)
    (hbody : ∀ (l : Nat) (s : β) (a₁ : Act) (W : World), A s a₁ W → body.wpIn (Fence.wide.inRound l) (n - 1 - 1) P (jointPost w.heap.size Ig Ix s W) a₁ W)
    (hseq : ∀ (l : Nat) (K Jx : World → Prop) (W : World), KeptBook K → K W → w.grownBy W none →
      (∀ s W1, Ib s W1 → K W1 → YieldAt Fence.wide (n - 1 - 1) P l (encs s) W1 fun e W' => (e = .returned (.bool true) ∧ Ig s W' ∧ K W') ∨ (e = .returned (.bool false) ∧ Jx W')) →
      CallsIn Fence.wide (n - 1) P gf (#[.func (.yield l) #[] #[]] ++ lb) W fun e W' => (∃ v, e = .returned v) ∧ ((Id () W' ∧ K W') ∨ Jx W'))
    (hdone : ∀ (D : Nat) (W : World), w.heap.size ≤ D → Id () W → W.heap[D]? = some (.deferred (some [])) → Q .normal { a with defers := { target := .collected D, args := #[] } :: a.defers } W)
    (hstop : ∀ (D : Nat) (c : Code) (s : β) (W : World), w.heap.size ≤ D → Ix c s W → W.heap[D]? = some (.deferred (some [])) → c.wp P Q { a with defers := { target := .collected D, args := #[] } :: a.defers } W) :
    (Code.rangeFunc g ps assign body).wp P Q a w :=
  (wpIn_wide (n := n)).1 (wpIn_rangeFunc_made rfl h1 hg trivial eg encs hps Ib Ig Ix Id hIb hIg hIx hId A hA hassign hbody hseq hdone (fun D c s W h2 h3 h4 => (wpIn_wide (n := n)).2 (hstop D c s W h2 h3 h4)))
end Go.Proofs.Ytnoegbogalfdgaa

/- Loads and stores of whole arrays inside a fence; a range over a function at 'wp'. -/
import Derived.Deep.MidRow
import Derived.Laws.Tables
import Derived.OwnWalkIn
import Derived.Test.YtnoegbogalfdgaaJoint
set_option linter.unusedSimpArgs false
set_option linter.unusedVariables false
namespace Go.Proofs.Ytnoegbogalfdgaa
open Go Go.RowKit
section
variable {F : Fence} {n : Nat} {P : Program} {ops : Array Oper} {rest : List Oper} {op : Oper} {a : Act} {w : World} {Q : Exit → Act → World → Prop}

theorem wpListIn_load_mid (hgd : op.guard = none) (ty : TypeId) (x : Operand) (ho : op.op = .load ty x)
    (b o : Nat) (hx : a.eval x = .pointer (some ⟨b, o, none⟩)) (cs : List Value) (d : TypeDesc) (hc : w.rangeAt b o cs)
    (hu : P.underlying ty = some d) (hd : d.isRow = true) (hi : (P.info? ty).map (·.size) = some cs.length)
    (h : wpListIn F n P ops Q rest (a.put op.dst (.agg cs.toArray)) w) : wpListIn F n P ops Q (op :: rest) a w :=
  wpListIn_plain hgd fun K hK => ⟨fun f hf => by unfold Oper.about at hf; simp [ho] at hf, by
    rw [Oper.semAt_plain F a.eval op (fun c e => by rw [ho] at e; cases e)]
    unfold execOp
    simp only [ho, hx, Instr.loadAt, Instr.sureAddr, Sem.run_bind, Sem.run_pure, Result.andThen_ok, run_loadVar_mid w b o ty cs d hc hu hd hi]
    exact hK _ _ h⟩

theorem wpListIn_store_row (hgd : op.guard = none) (ty : TypeId) (x y : Operand) (ho : op.op = .store ty x y)
    (g : Nat) (cells : Array Value) (hx : a.eval x = .pointer (some ⟨g, 0, none⟩)) (hy : a.eval y = .agg cells)
    (t : TypeId) (old : Array Value) (hg : w.heap[g]? = some (.cells old t (0, 0))) (hi : (P.info? ty).map (·.size) = some cells.size)
    (hold : old.size = cells.size) (h1 : cells.all (·.oneCell') = true)
    (h : wpListIn F n P ops Q rest (a.put op.dst undef) (w.setRow g cells)) : wpListIn F n P ops Q (op :: rest) a w :=
  wpListIn_plain hgd fun K hK => ⟨fun f hf => by unfold Oper.about at hf; simp [ho] at hf, by
    rw [Oper.semAt_plain F a.eval op (fun c e => by rw [ho] at e; cases e)]
    unfold execOp
    simp only [ho, hx, hy, Instr.storeAt, Instr.sureAddr, Sem.run_bind, Sem.run_pure, Result.andThen_ok, run_storeVar_row w g t ty old cells hg hi hold h1]
    exact hK _ _ h⟩

theorem wpListIn_store_mid (hgd : op.guard = none) (ty : TypeId) (x y : Operand) (ho : op.op = .store ty x y)
    (b o : Nat) (cells : Array Value) (hx : a.eval x = .pointer (some ⟨b, o, none⟩)) (hy : a.eval y = .agg cells)
    (ht : w.there b o cells.size) (hi : (P.info? ty).map (·.size) = some cells.size) (h1 : cells.all (·.oneCell') = true)
    (h : wpListIn F n P ops Q rest (a.put op.dst undef) (w.setCells b o cells.toList)) : wpListIn F n P ops Q (op :: rest) a w :=
  wpListIn_plain hgd fun K hK => ⟨fun f hf => by unfold Oper.about at hf; simp [ho] at hf, by
    rw [Oper.semAt_plain F a.eval op (fun c e => by rw [ho] at e; cases e)]
    unfold execOp
    simp only [ho, hx, hy, Instr.storeAt, Instr.sureAddr, Sem.run_bind, Sem.run_pure, Result.andThen_ok, run_storeVar_mid w b o ty cells ht hi h1]
    exact hK _ _ h⟩

/-- XJoint's law, where the caller is walked at 'wp' -/
theorem wp_rangeFunc_joint {β : Type} {g : Operand} {ps : Array Tmp} {assign body : Code} (n : Nat) (h1 : 1 ≤ n) {gf : Nat} {lb : Array Value} (hg : a.eval g = .func (.func gf) #[] lb) (eg : ∀ args w, (callFunc gf args).run P w = .ok (.enter gf args) w)
    (encs : β → Array Value) (hps : ∀ s, (encs s).size = ps.size)
    (Ib Ig : β → World → Prop) (Ix : Code → β → World → Prop) (Id : Unit → World → Prop)
    (hIb : OwnFrom w.heap.size Ib) (hIg : OwnFrom w.heap.size Ig) (hIx : ∀ c, OwnFrom w.heap.size (Ix c)) (hId : OwnFrom w.heap.size Id) (a₁ : β → Act)
    (hassign : ∀ (l : Nat) (s : β) (W : World) (K : Act → World → Prop), K (a₁ s) W →
      assign.wpIn (Fence.wide.inRound l) (n - 1 - 1) P (Exit.then K (fun _ _ _ => False)) { tmps := (ps.zip (encs s)).foldl (fun t (p, v) => t.setIfInBounds p v) a.tmps, defers := [] } W)
    (hbody : ∀ (l : Nat) (s : β) (W : World), Ib s W → body.wpIn (Fence.wide.inRound l) (n - 1 - 1) P (jointPost w.heap.size Ig Ix s W) (a₁ s) W)
    (hseq : ∀ (l : Nat) (K Jx : World → Prop) (W : World), KeptBook K → K W → w.grownBy W none →
      (∀ s W1, Ib s W1 → K W1 → YieldAt Fence.wide (n - 1 - 1) P l (encs s) W1 fun e W' => (e = .returned (.bool true) ∧ Ig s W' ∧ K W') ∨ (e = .returned (.bool false) ∧ Jx W')) →
      CallsIn Fence.wide (n - 1) P gf (#[.func (.yield l) #[] #[]] ++ lb) W fun e W' => (∃ v, e = .returned v) ∧ ((Id () W' ∧ K W') ∨ Jx W'))
    (hdone : ∀ (D : Nat) (W : World), w.heap.size ≤ D → Id () W → W.heap[D]? = some (.deferred (some [])) → Q .normal { a with defers := { target := .collected D, args := #[] } :: a.defers } W)
    (hstop : ∀ (D : Nat) (c : Code) (s : β) (W : World), w.heap.size ≤ D → Ix c s W → W.heap[D]? = some (.deferred (some [])) → c.wp P Q { a with defers := { target := .collected D, args := #[] } :: a.defers } W) :
    (Code.rangeFunc g ps assign body).wp P Q a w :=
  (wpIn_wide (n := n)).1 (wpIn_rangeFunc_joint rfl h1 hg trivial eg encs hps Ib Ig Ix Id hIb hIg hIx hId a₁ hassign hbody hseq hdone (fun D c s W h2 h3 h4 => (wpIn_wide (n := n)).2 (hstop D c s W h2 h3 h4)))
end
end Go.Proofs.Ytnoegbogalfdgaa

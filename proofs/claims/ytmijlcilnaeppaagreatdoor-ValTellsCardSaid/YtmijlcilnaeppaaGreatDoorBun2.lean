/- Texts put together: Joint, Tail, WireBytes, WireNumber, WireNumOut, ErrIs, WireReadNum, WireReadText, WireCrc, WireSum, WireShown. -/
import Derived.RangeFuncBox
import Derived.RangeFuncBound
import Derived.RangeFuncCalls
import Derived.RangeFuncLeaves
import Derived.Deep.Quiet
import Derived.Sort.BigQuietIn
import Derived.StillTail
import Derived.Scope
import Derived.TacticsIn
import Derived.TacticsInMore
import Derived.Shelf.Abstract
import Derived.Shelf.RegionOpen
import Derived.WalkKit
import Derived.OwnWalkIn
import Derived.LoopNIn
import Derived.LoopIn
import Derived.Lib.Hide
import Derived.Outline
import Derived.IntWalk
import Derived.BigRegionIn
import Derived.Sort.LoopGhostIn
import Derived.Test.YtmijlcilnaeppaaGreatDoorProg
import Derived.Lib.QuietBelowIn
import Derived.RangeFuncNested
import Derived.Sort.CutIn
import Derived.Test.YtmijlcilnaeppaaGreatDoorBun1
import Derived.LaidEql
import Derived.Stop.Asserts
import Derived.RowKitTokens
import Derived.KernelRfl
import Derived.BigQuiet
import Derived.Deep.QuietTactic
import Derived.StillTailTactics
import Derived.WalkLawsBesides
import Derived.Laws.BitsAllLaws
import Derived.RegionTactic
import Derived.Laws.MakeOwn
/- A range over a function whose iterator keeps a place of its own in memory: the caller and the iterator share what holds at each call of yield. -/
set_option linter.unusedSimpArgs false
set_option linter.unusedVariables false
namespace Go.Proofs.YtmijlcilnaeppaaGreatDoor
open Go Go.RowKit
variable {F : Fence} {n : Nat} {P : Program}

/-- the loop's own objects: its record, and the block for its deferred calls -/
def book : Obj → Bool
  | .loop _ => true
  | .deferred _ => true
  | _ => false

/-- what is said of the loop's own objects abides whatever turns others -/
def KeptBook (K : World → Prop) : Prop :=
  ∀ A B row, K A → A.grownBy B row → (∀ r, row = some r → ∃ o, A.heap[r]? = some o ∧ book o = false) → K B

theorem book_of_cells {o : Obj} (h : o.isCells = true) : book o = false := by cases o <;> simp_all [Obj.isCells, book]

theorem KeptBook.alloc {K : World → Prop} (h : KeptBook K) {W : World} (hK : K W) (o : Obj) : K (W.alloc o) :=
  h W _ none hK (World.grownBy_alloc W o none) (fun r e => by cases e)
theorem KeptBook.drewN {K : World → Prop} (h : KeptBook K) {W : World} (hK : K W) (m : Nat) : K (W.drewN m) :=
  h W _ none hK ⟨rfl, rfl, rfl, Nat.le_refl _, fun _ _ _ => rfl⟩ (fun r e => by cases e)
theorem KeptBook.setCell {K : World → Prop} (h : KeptBook K) {W : World} (hK : K W) {a : Addr} {v : Value} (hc : W.cell? a = some v) (u : Value) : K (W.setCell a u) := by
  obtain ⟨o, ho, hcell⟩ := cells_of_cell hc
  refine h W _ (some a.block) hK ⟨rfl, rfl, rfl, by simp, fun k _ hk => Below.heap_setCell _ _ _ k (fun e => hk (by rw [e]))⟩ ?_
  intro r e
  cases e
  exact ⟨o, ho, book_of_cells hcell⟩

/-- how a round may be left -/
def jointPost {β : Type} (B : Nat) (Ig : β → World → Prop) (Ix : Code → β → World → Prop) (s : β) (W : World) : Exit → Act → World → Prop
  | .normal, _, W' => KeepsFrom B W W' ∧ Ig s W'
  | .ret, _, W' => KeepsFrom B W W' ∧ Ix .ret s W'
  | .exit id, _, W' => KeepsFrom B W W' ∧ Ix (.exit id) s W'
  | .goto t, _, W' => KeepsFrom B W W' ∧ Ix (.goto t) s W'
  | .panic _, _, _ => False
  | .outgrown, _, _ => False

theorem keptBook_two (l : Nat) (o o' : Obj) (D : Nat) (hb : book o = true) (hb' : book o' = true) : KeptBook (fun W => W.heap[l]? = some o ∧ W.heap[D]? = some o') := by
  rintro A B row ⟨h1, h2⟩ hg hr
  have keep : ∀ k x, A.heap[k]? = some x → book x = true → B.heap[k]? = some x := fun k x hk hx => by
    refine (hg.block k (Array.getElem?_eq_some_iff.1 hk).1 ?_).trans hk
    intro e
    obtain ⟨y, hy, hny⟩ := hr k e.symm
    rw [hk] at hy; cases hy; rw [hx] at hny; cases hny
  exact ⟨keep _ _ h1 hb, keep _ _ h2 hb'⟩

theorem wpIn_rangeFunc_joint {β : Type} {g : Operand} {ps : Array Tmp} {assign body : Code} {Q : Exit → Act → World → Prop} {a : Act} {w : World}
    (hro : F.round = none) (h1 : 1 ≤ n) {gf : Nat} {lb : Array Value} (hg : a.eval g = .func (.func gf) #[] lb) (hFg : F.fn gf) (eg : ∀ args w, (callFunc gf args).run P w = .ok (.enter gf args) w)
    (encs : β → Array Value) (hps : ∀ s, (encs s).size = ps.size)
    (Ib Ig : β → World → Prop) (Ix : Code → β → World → Prop) (Id : Unit → World → Prop)
    (hIb : OwnFrom w.heap.size Ib) (hIg : OwnFrom w.heap.size Ig) (hIx : ∀ c, OwnFrom w.heap.size (Ix c)) (hId : OwnFrom w.heap.size Id) (a₁ : β → Act)
    (hassign : ∀ (l : Nat) (s : β) (W : World) (K : Act → World → Prop), K (a₁ s) W →
      assign.wpIn (F.inRound l) (n - 1 - 1) P (Exit.then K (fun _ _ _ => False)) { tmps := (ps.zip (encs s)).foldl (fun t (p, v) => t.setIfInBounds p v) a.tmps, defers := [] } W)
    (hbody : ∀ (l : Nat) (s : β) (W : World), Ib s W → body.wpIn (F.inRound l) (n - 1 - 1) P (jointPost w.heap.size Ig Ix s W) (a₁ s) W)
    (hseq : ∀ (l : Nat) (K Jx : World → Prop) (W : World), KeptBook K → K W → w.grownBy W none →
      (∀ s W1, Ib s W1 → K W1 → YieldAt F (n - 1 - 1) P l (encs s) W1 fun e W' => (e = .returned (.bool true) ∧ Ig s W' ∧ K W') ∨ (e = .returned (.bool false) ∧ Jx W')) →
      CallsIn F (n - 1) P gf (#[.func (.yield l) #[] #[]] ++ lb) W fun e W' => (∃ v, e = .returned v) ∧ ((Id () W' ∧ K W') ∨ Jx W'))
    (hdone : ∀ (D : Nat) (W : World), w.heap.size ≤ D → Id () W → W.heap[D]? = some (.deferred (some [])) → Q .normal { a with defers := { target := .collected D, args := #[] } :: a.defers } W)
    (hstop : ∀ (D : Nat) (c : Code) (s : β) (W : World), w.heap.size ≤ D → Ix c s W → W.heap[D]? = some (.deferred (some [])) → c.wpIn F n P Q { a with defers := { target := .collected D, args := #[] } :: a.defers } W) :
    (Code.rangeFunc g ps assign body).wpIn F n P Q a w := by
  refine wpIn_rangeFunc (fun fn hfn => ?_)
  rw [hro]
  let lp : LoopState → Option Code → Loop := fun st pe => { state := st, pending := pe, fn, tmps := a.tmps, params := ps, assign, body, defers := w.heap.size }
  let L := w.heap.size + 1
  let W1 := (w.alloc (.deferred (some []))).alloc (.loop (lp .ready none))
  have hg1 : w.grownBy W1 none := by
    refine ⟨rfl, rfl, rfl, by simp [W1]; omega, fun k hk _ => ?_⟩
    show ((w.alloc _).alloc _).heap[k]? = _
    rw [Below.heap_alloc _ _ k (by simp; omega), Below.heap_alloc _ _ k hk]
  have hl1 : W1.heap[L]? = some (.loop (lp .ready none)) := by
    have := World.alloc_heap_new (w.alloc (.deferred (some []))) (.loop (lp .ready none))
    rwa [World.size_alloc] at this
  have hd1 : W1.heap[w.heap.size]? = some (.deferred (some [])) :=
    (Below.heap_alloc _ _ _ (by simp)).trans (World.alloc_heap_new w _)
  refine ⟨L, [{ target := .collected w.heap.size, args := #[] }], W1, { target := .fn (.func gf) lb, args := #[.func (.yield L) #[] #[]] }, W1, gf,
    #[.func (.yield L) #[] #[]] ++ lb, W1, run_enterLoop_outer _ _ _ _ _, ?_, ?_, ?_, fun _ => h1, ?_⟩
  · simp only [resolve, hg]; simp [go_sem]
  · intro f' hf'; simp [Target.leads] at hf'; subst hf'; exact hFg
  · simp [invoke, go_sem, eg]
  let K : World → Prop := fun W => W.heap[L]? = some (.loop (lp .ready none)) ∧ W.heap[w.heap.size]? = some (.deferred (some []))
  let Jx : World → Prop := fun W => ∃ c s, Ix c s W ∧ W.heap[L]? = some (.loop (lp .done (some c))) ∧ W.heap[w.heap.size]? = some (.deferred (some []))
  refine (hseq L K Jx W1 (keptBook_two _ _ _ _ rfl rfl) ⟨hl1, hd1⟩ hg1 ?_).mono ?_
  · rintro s W hb ⟨hl, hd⟩
    have hlt : L < W.heap.size := (Array.getElem?_eq_some_iff.1 hl).1
    refine ⟨fn, _, assign, body, run_yield (r := lp .ready none) hl (hps s), roundIn_of_wpIn hfn (hassign L s W _ ⟨_, run_beginRound (r := lp .ready none) hl rfl, ?_⟩)⟩
    let W2 := W.putObj L (.loop (lp .busy none))
    have hl2 : W2.heap[L]? = some (.loop (lp .busy none)) := World.putObj_heap_same hlt
    have hd2 : W2.heap[w.heap.size]? = some (.deferred (some [])) := (World.putObj_heap_other (by simp [L])).trans hd
    refine wpIn_mono (hbody L s W2 (hIb.putObj _ hb (by simp [L]) hl rfl)) ?_
    have after : ∀ (jump : Option Code) (W3 : World), KeepsFrom w.heap.size W2 W3 →
        ∃ W4, (Instr.endRound L jump).run P W3 = .ok (.bool jump.isNone) W4 ∧ W4 = W3.putObj L (.loop (lp (if jump.isNone then .ready else .done) jump)) ∧
          W3.heap[L]? = some (.loop (lp .busy none)) ∧ W4.heap[L]? = some (.loop (lp (if jump.isNone then .ready else .done) jump)) ∧ W4.heap[w.heap.size]? = some (.deferred (some [])) := by
      intro jump W3 hk
      have hl3 := hk.same _ _ (by simp [L]) hl2 rfl
      have hd3 := hk.same _ _ (Nat.le_refl _) hd2 rfl
      exact ⟨_, run_endRound (r := lp .busy none) jump hl3, rfl, hl3, World.putObj_heap_same (Array.getElem?_eq_some_iff.1 hl3).1, (World.putObj_heap_other (by simp [L])).trans hd3⟩
    rintro e a3 W3 hp
    cases e with
    | normal =>
      obtain ⟨hk, hi⟩ := hp
      obtain ⟨W4, hr, rfl, hl3, hl4, hd4⟩ := after none W3 hk
      exact ⟨_, _, hr, .inl ⟨rfl, hIg.putObj _ hi (by simp [L]) hl3 rfl, hl4, hd4⟩⟩
    | ret =>
      obtain ⟨hk, hi⟩ := hp
      obtain ⟨W4, hr, rfl, hl3, hl4, hd4⟩ := after (some .ret) W3 hk
      exact ⟨_, _, hr, .inr ⟨rfl, .ret, s, (hIx _).putObj _ hi (by simp [L]) hl3 rfl, hl4, hd4⟩⟩
    | exit id =>
      obtain ⟨hk, hi⟩ := hp
      obtain ⟨W4, hr, rfl, hl3, hl4, hd4⟩ := after (some (.exit id)) W3 hk
      exact ⟨_, _, hr, .inr ⟨rfl, .exit id, s, (hIx _).putObj _ hi (by simp [L]) hl3 rfl, hl4, hd4⟩⟩
    | goto t =>
      obtain ⟨hk, hi⟩ := hp
      obtain ⟨W4, hr, rfl, hl3, hl4, hd4⟩ := after (some (.goto t)) W3 hk
      exact ⟨_, _, hr, .inr ⟨rfl, .goto t, s, (hIx _).putObj _ hi (by simp [L]) hl3 rfl, hl4, hd4⟩⟩
    | panic ch => exact hp.elim
    | outgrown => exact hp.elim
  · rintro e W2 ⟨⟨v, rfl⟩, (⟨hi, hl, hd⟩ | ⟨c, s, hi, hl, hd⟩)⟩
    · exact ⟨none, _, run_endLoop (r := lp .ready none) hl (by simp [lp]), hdone _ _ (Nat.le_refl _) (hId.putObj _ hi (by simp [L]) hl rfl) ((World.putObj_heap_other (by simp [L])).trans hd)⟩
    · exact ⟨some c, _, run_endLoop (r := lp .done (some c)) hl (by simp [lp]), hstop _ c s _ (Nat.le_refl _) ((hIx c).putObj _ hi (by simp [L]) hl rfl) ((World.putObj_heap_other (by simp [L])).trans hd)⟩
end Go.Proofs.YtmijlcilnaeppaaGreatDoor

/- A region that draws its order, of which all operations ahead of place m only read, and the others follow one another: one walk in the order of the text, inside a fence. -/
set_option linter.unusedSimpArgs false
set_option linter.unusedVariables false
namespace Go.Proofs.YtmijlcilnaeppaaGreatDoor
open Go

section
variable {F : Fence} {n : Nat} {P : Program} {ops : Array Oper} {md : Region.Mode} {C : World → Prop}

/-- no operation of the region defers a call: then it is carried out alike in a round and elsewhere -/
def noDefer (ops : Array Oper) : Bool := ops.all fun o => match o.op with | .defer _ => false | _ => true

theorem noDefer_spec (h : noDefer ops = true) {i : Nat} {o : Oper} (ho : ops[i]? = some o) : ∀ c, o.op ≠ .defer c := by
  intro c e
  have := Array.all_eq_true_iff_forall_mem.1 h o (Array.mem_of_getElem? ho)
  simp [e] at this

theorem oper_of_quiet {o : Oper} {a : Act} {K : Act → Prop} {K' : Act → World → Prop} {Q' : Exit → Act → World → Prop} {w : World} (hd : ∀ c, o.op ≠ .defer c) (hw : C w) (h : ∀ a w', C w' → K a → K' a w')
    (ha : o.askedIn F P a C) (hh : o.quietIn F n P a C K) : o.wpIn F n P a w K' Q' := by
  obtain ⟨v, h1, h2⟩ := hh
  have h3 := h1 w hw
  unfold Oper.quietAtIn at h3
  refine ⟨ha w hw, ?_⟩
  rw [Oper.semAt_eq _ _ _ hd]
  generalize (execOp a.eval o).run P w = r at *
  cases r with
  | halt x w' => exact h3.elim
  | ok x w' =>
    cases x with
    | value u => obtain ⟨rfl, rfl⟩ := h3; exact h _ _ hw h2
    | skip => obtain ⟨rfl, rfl⟩ := h3; exact h _ _ hw h2
    | enter f args => obtain ⟨rfl, hd', hc⟩ := h3; exact ⟨hd', hc.mono fun e w'' ⟨he, hw''⟩ => by subst he; exact h _ _ hw'' h2⟩
    | _ => exact h3.elim

theorem op_of_qOp (hd : noDefer ops = true) {i : Nat} {a : Act} {K : Act → Prop} {K' : Act → World → Prop} {Q' : Exit → Act → World → Prop} {w : World} (hC : C w) (h : ∀ a w', C w' → K a → K' a w')
    (hh : qOpIn F n P ops C i K a) : wpOpIn F n P ops Q' i K' a w := by
  unfold qOpIn at hh
  unfold wpOpIn
  cases ho : ops[i]? with
  | none => simp only [ho] at hh; exact h _ _ hC hh
  | some o =>
    simp only [ho] at hh
    obtain ⟨ha, hh⟩ := hh
    by_cases hw : Region.wanted o (yielded ops a.tmps) = true
    · simp only [hw, if_true] at hh ⊢
      exact oper_of_quiet (noDefer_spec hd ho) hC h ha hh
    · simp only [hw] at hh ⊢
      exact ⟨ha w hC, h _ _ hC hh⟩

theorem any_of_quiet (hd : noDefer ops = true) {Q : Act → Prop} {Q' : Exit → Act → World → Prop} (hQ : ∀ a w, C w → Q a → Q' .normal a w) : ∀ (fuel : Nat) (listed : Array Bool) (a : Act) (w : World), C w →
    wpAnyQIn F n P md ops C Q fuel listed a → wpAnyIn F n P md ops Q' fuel listed a w
  | 0, _, _, _, hw, h => ⟨h.1, hQ _ _ hw h.2⟩
  | fuel + 1, _, _, _, hw, h => ⟨fun h0 => hQ _ _ hw (h.1 h0), fun i hi => op_of_qOp hd hw (fun a' w' hw' => any_of_quiet hd hQ fuel _ a' w' hw') (h.2 i hi)⟩

/-- a region that only reads, and whose callees leave a world of the class C: in a round, too -/
theorem wpIn_region_class {id : Nat} {Q : Exit → Act → World → Prop} {a : Act} {w : World} {l : List Oper} (C : World → Prop) (hd : noDefer l.toArray = true) (hm : P.follows .mixedOrders = true) (hB : Region.lexB .any l.toArray = true) (hC : C w.drew)
    (h : wpQuietIn F n P l.toArray C (fun a' => ∀ w', C w' → Q .normal a' w') l a) : (Code.region id l.toArray true).wpIn F n P Q a w := by
  simp only [Region.lexB, Bool.and_eq_true] at hB
  refine wpIn_region_any hm (any_of_quiet (Q := fun a' => ∀ w', C w' → Q .normal a' w') hd (fun _ w' hw' h => h w' hw') _ _ _ _ hC ?_)
  have := wpAnyQIn_lex (F := F) (n := n) (C := C) (md := .any) hB.1 l 0 (Array.replicate l.toArray.size false) a (by simp) (by simpa using hB.2) h
  simpa using this

/-- whatever order is picked among those ahead of place m; behind them L -/
def headIn (F : Fence) (n : Nat) (P : Program) (md : Region.Mode) (ops : Array Oper) (C : World → Prop) (m : Nat) (L : Array Bool → Act → Prop) : Nat → Array Bool → Act → Prop
  | 0, listed, a => L listed a
  | f + 1, listed, a =>
    Region.ready md ops listed ≠ [] ∧ ∀ i ∈ Region.ready md ops listed, i < m ∧ qOpIn F n P ops C i (headIn F n P md ops C m L f (listed.setIfInBounds i true)) a

theorem any_of_headIn (hd : noDefer ops = true) {m g : Nat} {L : Array Bool → Act → Prop} {Q : Exit → Act → World → Prop}
    (hL : ∀ listed a w, C w → L listed a → wpAnyIn F n P md ops Q g listed a w) :
    ∀ (f : Nat) (listed : Array Bool) (a : Act) (w : World), C w → headIn F n P md ops C m L f listed a → wpAnyIn F n P md ops Q (f + g) listed a w
  | 0, listed, a, w, hw, h => by rw [Nat.zero_add]; exact hL _ _ _ hw h
  | f + 1, listed, a, w, hw, h => by
    rw [show f + 1 + g = (f + g) + 1 from by omega]
    refine ⟨fun e => absurd e h.1, fun i hi => ?_⟩
    exact op_of_qOp hd hw (fun a' w' hw' h' => any_of_headIn hd hL f _ a' w' hw' h') (h.2 i hi).2

theorem headIn_first {m i : Nat} {oi : Oper} {v : Value} {L : Array Bool → Act → Prop} (hi : ops[i]? = some oi) (hsel : ∀ (j : Nat) (o : Oper) cs b, ops[j]? = some o → o.op ≠ .select cs b)
    (hs : Region.sinkB md ops m = true) (hc : Region.chainB md ops m = true) (hm : m < ops.size) (him : i < m)
    (hend : ∀ listed a, L listed a → ∀ j ∈ Region.ready md ops listed, m ≤ j) :
    ∀ (f : Nat) (listed : Array Bool) (a : Act), HeadInv md ops m listed →
      (∀ j oj, ops[j]? = some oj → j ≠ i → listed.getD j true = false → (∀ e ∈ oj.after, Region.binds md e = true → e.on ≠ i) → oi.apart ops oj = true) →
      i ∈ Region.ready md ops listed → YieldsQuiet F n P ops C oi v a →
      headIn F n P md ops C m L f (listed.setIfInBounds i true) (a.put oi.dst v) → headIn F n P md ops C m L (f + 1) listed a := by
  intro f
  induction f with
  | zero =>
    intro listed a inv _ hr hy H
    have hopen := (mem_ready.1 hr).1
    refine ⟨fun e => (by rw [e] at hr; cases hr), fun j hj => ?_⟩
    have hjm : j < m := Nat.lt_of_not_le fun hle => tail_waits hs hc hm inv _ i rfl him hopen j hle hj
    refine ⟨hjm, ?_⟩
    by_cases e : j = i
    · subst e; exact hy.qOpIn hi H
    · exact absurd (hend _ _ H j (ready_mono hj e)) (by omega)
  | succ f ih =>
    intro listed a inv hfree hr hy H
    have hopen := (mem_ready.1 hr).1
    refine ⟨fun e => (by rw [e] at hr; cases hr), fun j hj => ?_⟩
    have hjm : j < m := Nat.lt_of_not_le fun hle => tail_waits hs hc hm inv _ i rfl him hopen j hle hj
    refine ⟨hjm, ?_⟩
    by_cases e : j = i
    · subst e; exact hy.qOpIn hi H
    · obtain ⟨hjopen, oj, hoj, hall⟩ := mem_ready.1 hj
      have hno : ∀ d ∈ oj.after, Region.binds md d = true → d.on ≠ i := fun d hd hb heq => by
        have := hall d hd hb
        rw [heq, getD_both hopen] at this
        cases this
      have later := qOpIn_put hoj (hfree j oj hoj e hjopen hno) (fun cs b => hsel i oi cs b hi) (fun cs b => hsel j oj cs b hoj) hy (H.2 j (ready_mono hj e)).2
      refine qOpIn_mono (fun a' h3 => ih (listed.setIfInBounds j true) a' (inv.set hj hjm) ?_ (ready_mono hr (Ne.symm e)) h3.1 ?_) later
      · intro k ok hk hki hun hno'
        refine hfree k ok hk hki ?_ hno'
        by_cases ejk : j = k
        · subst ejk; exact hjopen
        · rw [getD_set_ne true ejk] at hun; exact hun
      · rw [Array.setIfInBounds_comm _ _ e]
        exact h3.2

theorem headIn_lex {m g : Nat} {Lq : Act → Prop} (hsel : Region.noSelect ops = true) (hs : Region.sinkB md ops m = true) (hc : Region.chainB md ops m = true) (hm : m < ops.size) :
    ∀ (l : List Oper) (k : Nat) (listed : Array Bool) (a : Act), (∀ j, j < l.length → l[j]? = ops[k + j]?) → k + l.length = m → HeadInv md ops m listed →
    Region.lexHead md ops g l.length k listed = true → wpQuietIn F n P ops C Lq l a →
    headIn F n P md ops C m (fun listed' a' => Region.seqB md ops g m listed' = true ∧ Lq a') l.length listed a
  | [], k, listed, a, _, hk, _, hB, h => by
    obtain rfl : k = m := by simpa using hk
    exact ⟨by simpa [Region.lexHead] using hB, h⟩
  | o :: l, k, listed, a, hl, hk, inv, hB, h => by
    have h0 : ops[k]? = some o := by simpa using (hl 0 (by simp)).symm
    simp only [List.length_cons, Region.lexHead, Bool.and_eq_true] at hB
    obtain ⟨⟨hr, hf⟩, hB'⟩ := hB
    have hkm : k < m := by simp only [List.length_cons] at hk; omega
    have hr' : k ∈ Region.ready md ops listed := by simpa using hr
    have hst : qOpIn F n P ops C k (wpQuietIn F n P ops C Lq l) a := by unfold qOpIn; simp only [h0]; exact h
    obtain ⟨v, hy, hK⟩ := yieldsQuiet_of_qOpIn h0 hst
    refine headIn_first h0 (Region.noSelect_spec hsel) hs hc hm hkm (fun _ _ hL => seqB_ready hL.1) l.length listed a inv (Region.free_spec h0 hf) hr' hy ?_
    refine headIn_lex hsel hs hc hm l (k + 1) _ _ (fun j hj => ?_) (by simp only [List.length_cons] at hk; omega) (inv.set hr' hkm) hB' hK
    have := hl (j + 1) (by simp; omega)
    simpa [Nat.add_assoc, Nat.add_comm 1 j] using this

theorem any_of_seqIn {Q : Exit → Act → World → Prop} : ∀ (l : List Oper) (k : Nat) (listed : Array Bool) (a : Act) (w : World), (∀ j, l[j]? = ops[k + j]?) →
    Region.seqB md ops l.length k listed = true → wpListIn F n P ops Q l a w → wpAnyIn F n P md ops Q l.length listed a w
  | [], _, _, _, _, _, hB, h => ⟨by simpa [Region.seqB] using hB, h⟩
  | o :: l, k, listed, a, w, hl, hB, h => by
    have h0 : ops[k]? = some o := by simpa using (hl 0).symm
    simp only [List.length_cons, Region.seqB, Bool.and_eq_true, decide_eq_true_eq] at hB
    refine ⟨fun e => (by rw [hB.1] at e; cases e), fun i hi => ?_⟩
    rw [hB.1] at hi
    obtain rfl : i = k := by simpa using hi
    have hw : wpOpIn F n P ops Q i (wpListIn F n P ops Q l) a w := by unfold wpOpIn; simp only [h0]; exact h
    refine wpOpIn_mono (fun a' w' h' => any_of_seqIn l (i + 1) _ a' w' (fun j => ?_) hB.2 h') hw
    have := hl (j + 1)
    simpa [Nat.add_assoc, Nat.add_comm 1 j] using this

theorem wpIn_region_quiet_tail {id : Nat} {Q : Exit → Act → World → Prop} {a : Act} {w : World} {l : List Oper} (m : Nat) (hd : noDefer l.toArray = true) (hm : P.follows .mixedOrders = true) (hB : Region.lexTailB .any l.toArray m = true)
    (h : wpQuietIn F n P l.toArray (fun w' => ∃ k, w' = w.drewN k) (fun a' => ∀ w', (∃ k, w' = w.drewN k) → wpListIn F n P l.toArray Q (l.drop m) a' w') (l.take m) a) :
    (Code.region id l.toArray true).wpIn F n P Q a w := by
  simp only [Region.lexTailB, Bool.and_eq_true, decide_eq_true_eq] at hB
  obtain ⟨⟨⟨⟨hsel, hlt⟩, hs⟩, hc⟩, hlex⟩ := hB
  have htl : (l.take m).length = m := by simp at hlt ⊢; omega
  have hdl : (l.drop m).length = l.toArray.size - m := by simp
  have inv0 : HeadInv .any l.toArray m (Array.replicate l.toArray.size false) :=
    ⟨by simp, fun j oj _ hl => (by rw [getD_replicate_false] at hl; cases hl), fun t _ ht => getD_in (by simpa using ht) (getD_replicate_false _ _)⟩
  have H := headIn_lex (F := F) (n := n) (P := P) (md := .any) (C := fun w' => ∃ k, w' = w.drewN k) (g := l.toArray.size - m) hsel hs hc hlt (l.take m) 0 _ a (fun j hj => by
    have hj' : j < m := by rw [htl] at hj; exact hj
    simp [hj']) (by simpa using htl) inv0 (by rw [htl]; exact hlex) h
  refine wpIn_region_any hm ?_
  have := any_of_headIn (Q := Q) hd (g := l.toArray.size - m) (fun listed a' w' hw' hL => by
    have := any_of_seqIn (F := F) (n := n) (P := P) (md := .any) (Q := Q) (l.drop m) m listed a' w' (fun j => by simp [List.getElem?_drop]) (by rw [hdl]; exact hL.1) (hL.2 w' hw')
    rwa [hdl] at this) _ _ _ { w with drawn := w.drawn + 1 } ⟨1, rfl⟩ H
  rw [htl, show m + (l.toArray.size - m) = l.toArray.size from by simp at hlt ⊢; omega] at this
  exact this

/-- a scope through which the run goes without a goto -/
theorem wpIn_scope_wide {m : Nat} {c : Code} {Q : Exit → Act → World → Prop} {a : Act} {w : World} (h : c.wpIn Fence.wide m P (Exit.noGoto Q) a w) : (Code.scope c).wpIn Fence.wide m P Q a w :=
  wpIn_wide.2 (wp_scope_straight (wpIn_wide.1 h))
end
end Go.Proofs.YtmijlcilnaeppaaGreatDoor

/- (*text).bytes: an iterator over the bytes that were not read yet; it counts them in the text itself. -/
set_option linter.unusedSimpArgs false
set_option linter.unusedVariables false
namespace Go.Proofs.YtmijlcilnaeppaaGreatDoor
open Go Go.RowKit Go.Shelf
attribute [local go_sem] Oper.semAt_some

set_option maxHeartbeats 400000 in
theorem bytes_in (F : Fence) (n : Nat) (h : F.fn 86) (hro : F.round = none) (p : Addr) (w : World) :
    CallsIn F n Tryz.prog 86 #[.pointer (some p)] w fun e w' => e = .returned (.func (.func 94) #[] #[.pointer (some ⟨w.heap.size, 0, none⟩)]) ∧ w' = w.alloc (.cells #[.pointer (some p)] 130) := by
  refine callsIn_of_wp Tryz.func86 rfl h ?_ hro
  simp only [Tryz.ntmps86, List.size_toArray, List.length_cons, List.length_nil, Nat.reduceAdd, Nat.reduceSub, Array.replicate_succ, Array.replicate_zero, List.push_toArray, List.append_toArray, List.nil_append, List.cons_append]
  gi_wp2
  go_ret
  exact ⟨rfl, rfl⟩

set_option maxRecDepth 100000 in
set_option maxHeartbeats 1000000 in
/-- J p: the bytes ahead of p were read · Jy p: the one at p is handed on -/
theorem bytes1_in (n : Nat) (l R Bx : Nat) (s : ByteArray) (hs : s.size ≤ 9223372036854775807) (a0 : Nat) (ha : a0 ≤ s.size) (J Jy : Nat → World → Prop) (Jx : World → Prop)
    (hcells : ∀ p W, J p W → W.cell? ⟨Bx, 0, none⟩ = some (.pointer (some ⟨R, 0, none⟩)) ∧ W.cell? ⟨R, 0, none⟩ = some (.string s) ∧ W.cell? ⟨R, 1, none⟩ = some (.int .i64 (p : Int)) ∧ W.frozen? ⟨R, 1, none⟩ = false)
    (hcells2 : ∀ p W, Jy p W → W.cell? ⟨Bx, 0, none⟩ = some (.pointer (some ⟨R, 0, none⟩)) ∧ W.cell? ⟨R, 0, none⟩ = some (.string s) ∧ W.cell? ⟨R, 1, none⟩ = some (.int .i64 ((p : Int) + 1)))
    (hstep : ∀ p W, J p W → p < s.size → Jy p (W.setCell ⟨R, 1, none⟩ (.int .i64 ((p : Int) + 1))))
    (hquiet : ∀ p W m, J p W → J p (W.drewN m)) (hquiet2 : ∀ p W m, Jy p W → Jy p (W.drewN m))
    (hY : ∀ p W (hk : p < s.size), Jy p W → YieldAt Fence.wide (n - 1) Tryz.prog l #[.int .u8 ((s[p]'hk).toNat : Int)] W fun e W' =>
      (e = .returned (.bool true) ∧ J (p + 1) W') ∨ (e = .returned (.bool false) ∧ Jx W'))
    (W : World) (h0 : J a0 W) :
    CallsIn Fence.wide n Tryz.prog 94 #[.func (.yield l) #[] #[], .pointer (some ⟨Bx, 0, none⟩)] W fun e W' => (∃ v, e = .returned v) ∧
      (J s.size W' ∨ Jx W') := by
  refine callsIn_of_wp Tryz.func94 rfl trivial ?_ rfl
  simp only [Tryz.ntmps94, List.size_toArray, List.length_cons, List.length_nil, Nat.reduceAdd, Nat.reduceSub, Array.replicate_succ, Array.replicate_zero, List.push_toArray, List.append_toArray, List.nil_append, List.cons_append]
  gi_wp2
  gi_loopg [] (s.size - a0) (fun g wr => ∃ p, J p wr ∧ p + g = s.size)
  case atStart => exact ⟨a0, h0, by omega⟩
  case round =>
    obtain ⟨p, hJ, hg⟩ := hrel
    obtain ⟨c1, c2, c3, c4⟩ := hcells p wr hJ
    by_cases hlt : p < s.size
    · have d1 : decide ((0 : Int) ≤ (p : Int)) = true := by simp
      have d2 : decide (p < s.size) = true := by simp; omega
      have HG := Lib.hid hg; clear hg
      gi_wp2
      gi_big_quiet_th (fail)
      have hjq := hquiet p wr nq hJ
      gi_wp2
      have hjs := hstep p _ hjq hlt
      have f1 : IntKind.i64.wrap (p : Int) = (p : Int) := IntWalk.i64_in _ (by omega)
      have f2 : IntKind.i64.wrap ((p : Int) + 1 - 1) = (p : Int) := by rw [IntWalk.i64_in _ (by omega)]; omega
      obtain ⟨e1, e2, e3⟩ := hcells2 p _ hjs
      refine wpIn_region_quiet_tail 11 (by kernel_rfl) (by kernel_rfl) (by kernel_rfl) ?_
      simp only [List.take_succ_cons, List.take_zero, List.drop_succ_cons, List.drop_zero]
      repeat (gi_big_quiet_step (fail))
      refine wpQuietIn_nil ?_
      rintro _ ⟨nq2, rfl⟩
      obtain ⟨fn, tmps, assign, body, hy, hR⟩ := hY p _ hlt (hquiet2 p _ nq2 hjs)
      gi_wp2
      refine ⟨fun h => (by cases h), hR.mono ?_⟩
      rintro e W5 (⟨rfl, hJ5⟩ | ⟨rfl, hJ5⟩)
      · clear hy hR
        gi_wp2
        gi_roundg (gk - 1)
        case measure => have := HG.out; omega
        case rel => exact ⟨p + 1, hJ5, by have := HG.out; omega⟩
      · clear hy hR
        gi_wp2
        refine bodyPost_ret (results_none rfl _ _ _) rfl ?_
        exact ⟨⟨_, rfl⟩, .inr hJ5⟩
    · have d2 : decide (p < s.size) = false := by simp; omega
      have HG := Lib.hid hg; clear hg
      gi_wp2
      gi_big_quiet_th (fail)
      gi_wp2
      go_end0
      have := HG.out
      obtain rfl : p = s.size := by omega
      exact ⟨⟨_, rfl⟩, .inl (hquiet _ _ _ hJ)⟩
end Go.Proofs.YtmijlcilnaeppaaGreatDoor

/- (*reader).number: the next number. -/
set_option linter.unusedSimpArgs false
set_option linter.unusedVariables false
namespace Go.Proofs.YtmijlcilnaeppaaGreatDoor
open Go Go.RowKit Go.Shelf Go.Sort
attribute [local go_sem] Oper.semAt_some

/-- the block of a reader of s that stands at p -/
def ReaderAt (W : World) (R : Nat) (s : ByteArray) (p : Int) : Prop := W.heap[R]? = some (.cells #[.string s, .int .i64 p] 99 (0, 0))

theorem ReaderAt.cell0 {W : World} {R : Nat} {s : ByteArray} {p : Int} (h : ReaderAt W R s p) : W.cell? ⟨R, 0, none⟩ = some (.string s) := by
  simp [World.cell?, show W.heap[R]? = _ from h]
theorem ReaderAt.cell1 {W : World} {R : Nat} {s : ByteArray} {p : Int} (h : ReaderAt W R s p) : W.cell? ⟨R, 1, none⟩ = some (.int .i64 p) := by
  simp [World.cell?, show W.heap[R]? = _ from h]
theorem ReaderAt.frozen {W : World} {R : Nat} {s : ByteArray} {p : Int} (h : ReaderAt W R s p) (k : Nat) : W.frozen? ⟨R, k, none⟩ = false := by
  simp [World.frozen?, show W.heap[R]? = _ from h]
theorem ReaderAt.lt {W : World} {R : Nat} {s : ByteArray} {p : Int} (h : ReaderAt W R s p) : R < W.heap.size := (Array.getElem?_eq_some_iff.1 h).1

/-- the places of number's own variables -/
structure Vars where
  R : Nat
  b0 : Nat
  b1 : Nat
  b2 : Nat
  b3 : Nat
  b4 : Nat
  b5 : Nat
  b6 : Nat
  b7 : Nat

/-- they are apart -/
def Vars.rising (V : Vars) : Prop := V.R < V.b0 ∧ V.b0 < V.b1 ∧ V.b1 < V.b2 ∧ V.b2 < V.b3 ∧ V.b3 < V.b4 ∧ V.b4 < V.b5 ∧ V.b5 < V.b6 ∧ V.b6 < V.b7

/-- number's variables: the reader, where it began, how many bytes there were, sign and rest -/
structure NumI (V : Vars) (w W : World) (s : ByteArray) (a0 p places sign rest : Int) : Prop where
  grown : w.grownBy W (some V.R)
  reader : ReaderAt W V.R s p
  x0 : Boxed W V.b0 119 (.pointer (some ⟨V.R, 0, none⟩))
  x1 : Boxed W V.b1 3 (.int .i64 0)
  x2 : Boxed W V.b2 82 .nilIface
  x3 : Boxed W V.b3 3 (.int .i64 a0)
  x4 : Boxed W V.b4 3 (.int .i64 places)
  x5 : Boxed W V.b5 3 (.int .i64 sign)
  x6 : Boxed W V.b6 3 (.int .i64 rest)
  x7 : Boxed W V.b7 130 (.pointer (some ⟨V.R, 0, none⟩))

theorem boxed_new' (W : World) (t : TypeId) (v : Value) (B : Nat) (h : W.heap.size = B) : Boxed (W.alloc (.cells #[v] t)) B t v := h ▸ Boxed.new W t v

theorem grownBy_of_below {w W : World} (h : Below w.heap.size w W) (row : Option Nat) : w.grownBy W row := ⟨h.os, h.tape, h.output, h.size, fun k hk _ => h.block k hk⟩

/-- number's variables, as they are laid -/
def numBlocks (w : World) (R : Nat) (a0 : Int) : World :=
  (((((((w.alloc (.cells #[.pointer (some ⟨R, 0, none⟩)] 119)).alloc (.cells #[.int .i64 0] 3)).alloc (.cells #[.nilIface] 82)).alloc (.cells #[.int .i64 a0] 3)).alloc
    (.cells #[.int .i64 0] 3)).alloc (.cells #[.int .i64 0] 3)).alloc (.cells #[.int .i64 0] 3)).alloc (.cells #[.pointer (some ⟨R, 0, none⟩)] 130)

theorem numI_start (w : World) (R : Nat) (s : ByteArray) (a0 : Int) (hR : ReaderAt w R s a0) :
    NumI ⟨R, w.heap.size, w.heap.size + 1, w.heap.size + 1 + 1, w.heap.size + 1 + 1 + 1, w.heap.size + 1 + 1 + 1 + 1, w.heap.size + 1 + 1 + 1 + 1 + 1, w.heap.size + 1 + 1 + 1 + 1 + 1 + 1, w.heap.size + 1 + 1 + 1 + 1 + 1 + 1 + 1⟩ w (numBlocks w R a0) s a0 a0 0 0 0 := by
  have hb : Below w.heap.size w (numBlocks w R a0) := by
    unfold numBlocks
    exact ((((((((Below.refl _ w).alloc (by simp) _).alloc (by simp) _).alloc (by simp; omega) _).alloc (by simp; omega) _).alloc (by simp; omega) _).alloc (by simp; omega) _).alloc (by simp; omega) _).alloc (by simp; omega) _
  exact ⟨grownBy_of_below hb _, (hb.block R hR.lt).trans hR,
      (((((((boxed_new' _ _ _ _ (by simp)).alloc _).alloc _).alloc _).alloc _).alloc _).alloc _).alloc _,
      ((((((boxed_new' _ _ _ _ (by simp)).alloc _).alloc _).alloc _).alloc _).alloc _).alloc _,
      (((((boxed_new' _ _ _ _ (by simp)).alloc _).alloc _).alloc _).alloc _).alloc _,
      ((((boxed_new' _ _ _ _ (by simp)).alloc _).alloc _).alloc _).alloc _,
      (((boxed_new' _ _ _ _ (by simp)).alloc _).alloc _).alloc _,
      ((boxed_new' _ _ _ _ (by simp)).alloc _).alloc _,
      (boxed_new' _ _ _ _ (by simp)).alloc _,
      boxed_new' _ _ _ _ (by simp)⟩

theorem grown_set {w W : World} {r : Option Nat} (h : w.grownBy W r) {b : Nat} (hb : w.heap.size ≤ b) (a : Addr) (ha : a.block = b) (v : Value) : w.grownBy (W.setCell a v) r :=
  ⟨h.os, h.tape, h.output, by simpa using h.size, fun k hk hr => (Below.heap_setCell W a v k (by omega)).trans (h.block k hk hr)⟩
theorem grown_set_row {w W : World} {b : Nat} (h : w.grownBy W (some b)) (a : Addr) (ha : a.block = b) (v : Value) : w.grownBy (W.setCell a v) (some b) :=
  ⟨h.os, h.tape, h.output, by simpa using h.size, fun k hk hr => (Below.heap_setCell W a v k (fun e => hr (by rw [e, ha]))).trans (h.block k hk hr)⟩
theorem grown_below {w W W' : World} {r : Option Nat} (h : w.grownBy W r) (hb : Below W.heap.size W W') : w.grownBy W' r :=
  ⟨hb.os.trans h.os, hb.tape.trans h.tape, hb.output.trans h.output, Nat.le_trans h.size hb.size, fun k hk hr => (hb.block k (Nat.lt_of_lt_of_le hk h.size)).trans (h.block k hk hr)⟩

theorem boxed_past {W : World} {B : Nat} {t : TypeId} {v : Value} (h : Boxed W B t v) (a : Addr) (ha : B ≠ a.block) (u : Value) : Boxed (W.setCell a u) B t v :=
  (Below.heap_setCell W a u B ha).trans h
theorem ReaderAt.past {W : World} {R : Nat} {s : ByteArray} {p : Int} (h : ReaderAt W R s p) (a : Addr) (ha : R ≠ a.block) (u : Value) : ReaderAt (W.setCell a u) R s p :=
  (Below.heap_setCell W a u R ha).trans h
theorem ReaderAt.set {W : World} {R : Nat} {s : ByteArray} {p : Int} (h : ReaderAt W R s p) (q : Int) : ReaderAt (W.setCell ⟨R, 1, none⟩ (.int .i64 q)) R s q := by
  have := heap_setCell_same W R 1 _ _ (.int .i64 q) (show W.heap[R]? = _ from h)
  exact this.trans rfl
theorem boxed_below {W W' : World} {B : Nat} {t : TypeId} {v : Value} (h : Boxed W B t v) (hb : Below W.heap.size W W') : Boxed W' B t v := (hb.block B h.lt).trans h
theorem ReaderAt.below {W W' : World} {R : Nat} {s : ByteArray} {p : Int} (h : ReaderAt W R s p) (hb : Below W.heap.size W W') : ReaderAt W' R s p := (hb.block R h.lt).trans h

section
variable {V : Vars} {w W : World} {s : ByteArray} {a0 p places sign rest : Int}

theorem NumI.below (h : NumI V w W s a0 p places sign rest) {W' : World} (hb : Below W.heap.size W W') : NumI V w W' s a0 p places sign rest :=
  ⟨grown_below h.grown hb, h.reader.below hb, boxed_below h.x0 hb, boxed_below h.x1 hb, boxed_below h.x2 hb, boxed_below h.x3 hb, boxed_below h.x4 hb, boxed_below h.x5 hb, boxed_below h.x6 hb, boxed_below h.x7 hb⟩
theorem NumI.drewN (h : NumI V w W s a0 p places sign rest) (m : Nat) : NumI V w (W.drewN m) s a0 p places sign rest := h.below ⟨rfl, rfl, rfl, Nat.le_refl _, fun _ _ => rfl⟩
theorem NumI.drew (h : NumI V w W s a0 p places sign rest) : NumI V w W.drew s a0 p places sign rest := h.drewN 1
theorem NumI.setR (h : NumI V w W s a0 p places sign rest) (hr : V.rising) (q : Int) : NumI V w (W.setCell ⟨V.R, 1, none⟩ (.int .i64 q)) s a0 q places sign rest := by
  obtain ⟨r0, r1, r2, r3, r4, r5, r6, r7⟩ := hr
  exact ⟨grown_set_row h.grown _ rfl _, h.reader.set q, boxed_past h.x0 _ (by show _ ≠ V.R; omega) _, boxed_past h.x1 _ (by show _ ≠ V.R; omega) _, boxed_past h.x2 _ (by show _ ≠ V.R; omega) _, boxed_past h.x3 _ (by show _ ≠ V.R; omega) _,
    boxed_past h.x4 _ (by show _ ≠ V.R; omega) _, boxed_past h.x5 _ (by show _ ≠ V.R; omega) _, boxed_past h.x6 _ (by show _ ≠ V.R; omega) _, boxed_past h.x7 _ (by show _ ≠ V.R; omega) _⟩
theorem NumI.set4 (h : NumI V w W s a0 p places sign rest) (hr : V.rising) (hw : w.heap.size ≤ V.b0) (q : Int) : NumI V w (W.setCell ⟨V.b4, 0, none⟩ (.int .i64 q)) s a0 p q sign rest := by
  obtain ⟨r0, r1, r2, r3, r4, r5, r6, r7⟩ := hr
  exact ⟨grown_set h.grown (b := V.b4) (by omega) _ rfl _, h.reader.past _ (by show _ ≠ V.b4; omega) _, boxed_past h.x0 _ (by show _ ≠ V.b4; omega) _, boxed_past h.x1 _ (by show _ ≠ V.b4; omega) _, boxed_past h.x2 _ (by show _ ≠ V.b4; omega) _, boxed_past h.x3 _ (by show _ ≠ V.b4; omega) _,
    h.x4.set _, boxed_past h.x5 _ (by show _ ≠ V.b4; omega) _, boxed_past h.x6 _ (by show _ ≠ V.b4; omega) _, boxed_past h.x7 _ (by show _ ≠ V.b4; omega) _⟩
theorem NumI.set5 (h : NumI V w W s a0 p places sign rest) (hr : V.rising) (hw : w.heap.size ≤ V.b0) (q : Int) : NumI V w (W.setCell ⟨V.b5, 0, none⟩ (.int .i64 q)) s a0 p places q rest := by
  obtain ⟨r0, r1, r2, r3, r4, r5, r6, r7⟩ := hr
  exact ⟨grown_set h.grown (b := V.b5) (by omega) _ rfl _, h.reader.past _ (by show _ ≠ V.b5; omega) _, boxed_past h.x0 _ (by show _ ≠ V.b5; omega) _, boxed_past h.x1 _ (by show _ ≠ V.b5; omega) _, boxed_past h.x2 _ (by show _ ≠ V.b5; omega) _, boxed_past h.x3 _ (by show _ ≠ V.b5; omega) _,
    boxed_past h.x4 _ (by show _ ≠ V.b5; omega) _, h.x5.set _, boxed_past h.x6 _ (by show _ ≠ V.b5; omega) _, boxed_past h.x7 _ (by show _ ≠ V.b5; omega) _⟩
theorem NumI.set6 (h : NumI V w W s a0 p places sign rest) (hr : V.rising) (hw : w.heap.size ≤ V.b0) (q : Int) : NumI V w (W.setCell ⟨V.b6, 0, none⟩ (.int .i64 q)) s a0 p places sign q := by
  obtain ⟨r0, r1, r2, r3, r4, r5, r6, r7⟩ := hr
  exact ⟨grown_set h.grown (b := V.b6) (by omega) _ rfl _, h.reader.past _ (by show _ ≠ V.b6; omega) _, boxed_past h.x0 _ (by show _ ≠ V.b6; omega) _, boxed_past h.x1 _ (by show _ ≠ V.b6; omega) _, boxed_past h.x2 _ (by show _ ≠ V.b6; omega) _, boxed_past h.x3 _ (by show _ ≠ V.b6; omega) _,
    boxed_past h.x4 _ (by show _ ≠ V.b6; omega) _, boxed_past h.x5 _ (by show _ ≠ V.b6; omega) _, h.x6.set _, boxed_past h.x7 _ (by show _ ≠ V.b6; omega) _⟩

/-- a turn of a block that is no cells, and a new one, leave all that -/
theorem NumI.own (h : NumI V w W s a0 p places sign rest) {W' : World} {row : Option Nat} (hg : W.grownBy W' row) (hr : ∀ r, row = some r → w.heap.size ≤ r ∧ ∃ o : Obj, W.heap[r]? = some o ∧ o.isCells = false) : NumI V w W' s a0 p places sign rest := by
  have keep : ∀ {b t v}, Boxed W b t v → Boxed W' b t v := fun {b t v} hb => hb.kept hg (fun e => by
    obtain ⟨_, o, ho, hc⟩ := hr b e.symm
    rw [show W.heap[b]? = _ from hb] at ho; cases ho; cases hc)
  refine ⟨⟨hg.os.trans h.grown.os, hg.tape.trans h.grown.tape, hg.output.trans h.grown.output, Nat.le_trans h.grown.size hg.size, fun k hk hne => (hg.block k (Nat.lt_of_lt_of_le hk h.grown.size) (fun e => ?_)).trans (h.grown.block k hk hne)⟩,
    (hg.block V.R h.reader.lt (fun e => ?_)).trans h.reader, keep h.x0, keep h.x1, keep h.x2, keep h.x3, keep h.x4, keep h.x5, keep h.x6, keep h.x7⟩
  · obtain ⟨h1, _⟩ := hr k e.symm; omega
  · obtain ⟨_, o, ho, hc⟩ := hr V.R e.symm
    rw [show W.heap[V.R]? = _ from h.reader] at ho; cases ho; cases hc
end

/-- the bytes of s from a0 on, ahead of p -/
def seg (s : ByteArray) (a0 p : Nat) : List UInt8 := (s.data.toList.drop a0).take (p - a0)

theorem seg_length (s : ByteArray) (a0 p : Nat) (h : a0 ≤ p) (hp : p ≤ s.size) : (seg s a0 p).length = p - a0 := by
  simp only [seg, List.length_take, List.length_drop, Array.length_toList]
  have : s.data.size = s.size := rfl
  omega
theorem seg_snoc (s : ByteArray) (a0 p : Nat) (h : a0 ≤ p) (hp : p < s.size) : seg s a0 (p + 1) = seg s a0 p ++ [s[p]] := by
  unfold seg
  rw [show p + 1 - a0 = (p - a0) + 1 from by omega, List.take_succ_eq_append_getElem (by simp; omega)]
  congr 2
  rw [List.getElem_drop]
  show s.data.toList[a0 + (p - a0)]'_ = _
  simp only [show a0 + (p - a0) = p from by omega]
  rfl

theorem wrap64_w64 (n : Int) : wrap64 n = Wire.w64 n := by unfold wrap64 Wire.w64; rfl

theorem extract_drop (s : ByteArray) (a : Nat) : (s.extract a s.size).data.toList = s.data.toList.drop a := by
  rw [← Lib.toList_data, Lib.extract_toList]
  rw [List.take_of_length_le (by simp)]

/-- between two rounds -/
def numG (V : Vars) (w : World) (s : ByteArray) (a0 p : Nat) (W : World) : Prop :=
  a0 ≤ p ∧ p ≤ s.size ∧ p - a0 < 10 ∧ (∀ b ∈ seg s a0 p, 128 ≤ b.toNat) ∧ NumI V w W s a0 p ((p - a0 : Nat) : Int) (Wire.dec (seg s a0 p)).1 (Wire.dec (seg s a0 p)).2
/-- a byte is handed on -/
def numY (V : Vars) (w : World) (s : ByteArray) (a0 p : Nat) (W : World) : Prop :=
  a0 ≤ p ∧ p < s.size ∧ p - a0 < 10 ∧ (∀ b ∈ seg s a0 p, 128 ≤ b.toNat) ∧ NumI V w W s a0 ((p : Int) + 1) ((p - a0 : Nat) : Int) (Wire.dec (seg s a0 p)).1 (Wire.dec (seg s a0 p)).2
/-- what the results' places hold, and the reader -/
def numE (V : Vars) (w : World) (s : ByteArray) (p : Int) (n : Int) (W : World) : Prop :=
  w.grownBy W (some V.R) ∧ ReaderAt W V.R s p ∧ Boxed W V.b1 3 (.int .i64 n) ∧ Boxed W V.b2 82 .nilIface

theorem numE_own {V : Vars} {w W : World} {s : ByteArray} {p n : Int} (h : numE V w s p n W) {W' : World} {row : Option Nat} (hg : W.grownBy W' row) (hr : ∀ r, row = some r → w.heap.size ≤ r ∧ ∃ o : Obj, W.heap[r]? = some o ∧ o.isCells = false) : numE V w s p n W' := by
  obtain ⟨h1, h2, h3, h4⟩ := h
  have keep : ∀ {b t v}, Boxed W b t v → Boxed W' b t v := fun {b t v} hb => hb.kept hg (fun e => by
    obtain ⟨_, o, ho, hc⟩ := hr b e.symm
    rw [show W.heap[b]? = _ from hb] at ho; cases ho; cases hc)
  refine ⟨⟨hg.os.trans h1.os, hg.tape.trans h1.tape, hg.output.trans h1.output, Nat.le_trans h1.size hg.size, fun k hk hne => (hg.block k (Nat.lt_of_lt_of_le hk h1.size) (fun e => ?_)).trans (h1.block k hk hne)⟩,
    (hg.block V.R h2.lt (fun e => ?_)).trans h2, keep h3, keep h4⟩
  · obtain ⟨h1, _⟩ := hr k e.symm; omega
  · obtain ⟨_, o, ho, hc⟩ := hr V.R e.symm
    rw [show W.heap[V.R]? = _ from h2] at ho; cases ho; cases hc

def numX (V : Vars) (w : World) (s : ByteArray) (a0 : Nat) (c : Code) (x : { p : Nat // p < s.size }) (W : World) : Prop :=
  match c with
  | .ret => ∃ v : Int, Wire.inRange v ∧ Wire.num v <+: s.data.toList.drop a0 ∧ x.1 + 1 = a0 + (Wire.num v).length ∧ numE V w s ((x.1 : Int) + 1) v W
  | .exit 0 => (∀ v : Int, Wire.inRange v → ¬ Wire.num v <+: s.data.toList.drop a0) ∧ ∃ p, numE V w s p 0 W
  | _ => False
def numD (V : Vars) (w : World) (s : ByteArray) (a0 : Nat) (_ : Unit) (W : World) : Prop :=
  (∀ v : Int, Wire.inRange v → ¬ Wire.num v <+: s.data.toList.drop a0) ∧ ∃ p, numE V w s p 0 W

/-- what number answers -/
def numPost (s : ByteArray) (a0 R : Nat) (ea : Addr) (w : World) (e : Ending) (w' : World) : Prop :=
  w.grownBy w' (some R) ∧
  ((∃ v : Int, Wire.inRange v ∧ Wire.num v <+: s.data.toList.drop a0 ∧ e = .returned (.tuple #[.int .i64 v, .nilIface]) ∧ ReaderAt w' R s ((a0 + (Wire.num v).length : Nat) : Int)) ∨
   ((∀ v : Int, Wire.inRange v → ¬ Wire.num v <+: s.data.toList.drop a0) ∧ e = .returned (.tuple #[.int .i64 0, .iface 157 (.pointer (some ea))]) ∧ ∃ q, ReaderAt w' R s q))

theorem drop_get (s : ByteArray) (a0 p : Nat) (h : a0 ≤ p) (hp : p < s.size) : (s.data.toList.drop a0)[p - a0]? = some s[p] := by
  rw [List.getElem?_drop, show a0 + (p - a0) = p from by omega]
  exact List.getElem?_eq_getElem (by simpa using hp)

theorem number_results (W : World) (tmps : Array Value) (b1 b2 : Nat) (v : Int) (x : Value) (h1 : tmps[2]?.getD undef = .pointer (some ⟨b1, 0, none⟩)) (h2 : tmps[3]?.getD undef = .pointer (some ⟨b2, 0, none⟩))
    (c1 : W.cell? ⟨b1, 0, none⟩ = some (.int .i64 v)) (c2 : W.cell? ⟨b2, 0, none⟩ = some x) :
    (results Tryz.f75 tmps).run Tryz.prog W = .ok (.tuple #[.int .i64 v, x]) W := by
  simp only [results, Tryz.f75]
  simp [go_sem, h1, h2, c1, c2]

theorem boxed_put {W : World} {B : Nat} {t : TypeId} {v : Value} (h : Boxed W B t v) {D : Nat} {o : Obj} (o' : Obj) (hD : W.heap[D]? = some o) (ho : o.isCells = false) : Boxed (W.putObj D o') B t v :=
  h.kept (grownBy_putObj' W D o') (fun e => by cases e; rw [show W.heap[B]? = _ from h] at hD; cases hD; cases ho)
theorem reader_put {W : World} {R : Nat} {s : ByteArray} {p : Int} (h : ReaderAt W R s p) {D : Nat} {o : Obj} (o' : Obj) (hD : W.heap[D]? = some o) (ho : o.isCells = false) : ReaderAt (W.putObj D o') R s p :=
  ((grownBy_putObj' W D o').block R h.lt (fun e => by cases e; rw [show W.heap[R]? = _ from h] at hD; cases hD; cases ho)).trans h
theorem grown_put {w W : World} {r : Option Nat} (h : w.grownBy W r) {D : Nat} (hD : w.heap.size ≤ D) (o : Obj) : w.grownBy (W.putObj D o) r :=
  ⟨h.os, h.tape, h.output, by simpa using h.size, fun k hk hne => (World.putObj_heap_other (by omega)).trans (h.block k hk hne)⟩

set_option maxRecDepth 100000 in
set_option maxHeartbeats 2000000 in
theorem number_in (s : ByteArray) (hs : s.size ≤ 9223372036854775807) (R : Nat) (a0 : Nat) (ha : a0 ≤ s.size) (ea : Addr) (w : World) (hR : ReaderAt w R s a0)
    (hE : w.cell? ⟨0, 0, none⟩ = some (.iface 157 (.pointer (some ea)))) (hR0 : R ≠ 0) :
    CallsIn Fence.wide 9 Tryz.prog 75 #[.pointer (some ⟨R, 0, none⟩)] w (numPost s a0 R ea w) := by
  refine callsIn_of_wp_marks Tryz.func75 rfl trivial ?_ rfl
  simp only [Tryz.ntmps75, List.size_toArray, List.length_cons, List.length_nil, Nat.reduceAdd, Nat.reduceSub, Array.replicate_succ, Array.replicate_zero, List.push_toArray, List.append_toArray, List.nil_append, List.cons_append]
  have hlt : R < w.heap.size := hR.lt
  have hmix : Tryz.prog.follows .mixedOrders = true := by kernel_rfl
  have k1 : ∀ o1 o2 o3, (((w.alloc o1).alloc o2).alloc o3).cell? ⟨R, 1, none⟩ = some (.int .i64 (a0 : Int)) := fun o1 o2 o3 =>
    (((((Below.refl w.heap.size w).alloc (Nat.le_refl _) o1).alloc (by simp) o2).alloc (by simp; omega) o3).cell (p := ⟨R, 1, none⟩) hlt).trans hR.cell1
  gi_wp2
  refine wpIn_scope_wide ?_
  gi_wp2
  refine wpIn_label ?_
  gi_wp2_with (refine ⟨trivial, ?_⟩; gi_at_call 86; refine (bytes_in _ _ trivial rfl _ _).mono ?_; rintro e w' ⟨rfl, rfl⟩)
  have hrise : Vars.rising ⟨R, w.heap.size, w.heap.size + 1, w.heap.size + 1 + 1, w.heap.size + 1 + 1 + 1, w.heap.size + 1 + 1 + 1 + 1, w.heap.size + 1 + 1 + 1 + 1 + 1, w.heap.size + 1 + 1 + 1 + 1 + 1 + 1, w.heap.size + 1 + 1 + 1 + 1 + 1 + 1 + 1⟩ := by
    simp only [Vars.rising]; omega
  have hI := numI_start w R s a0 hR
  show Code.wpIn _ _ _ _ _ _ (numBlocks w R a0)
  generalize numBlocks w R a0 = W0 at hI ⊢
  clear k1
  generalize w.heap.size + 1 + 1 + 1 + 1 + 1 + 1 + 1 = b7 at hrise hI ⊢
  generalize w.heap.size + 1 + 1 + 1 + 1 + 1 + 1 = b6 at hrise hI ⊢
  generalize w.heap.size + 1 + 1 + 1 + 1 + 1 = b5 at hrise hI ⊢
  generalize w.heap.size + 1 + 1 + 1 + 1 = b4 at hrise hI ⊢
  generalize w.heap.size + 1 + 1 + 1 = b3 at hrise hI ⊢
  generalize w.heap.size + 1 + 1 = b2 at hrise hI ⊢
  generalize w.heap.size + 1 = b1 at hrise hI ⊢
  generalize hb0 : w.heap.size = b0 at hrise hI ⊢
  have HB := Lib.hid hb0; clear hb0
  refine wpIn_rangeFunc_joint rfl (by decide) (gf := 94) (lb := #[.pointer (some ⟨b7, 0, none⟩)]) rfl trivial (enters_of Tryz.func94 (by kernel_rfl) rfl)
    (fun x : { p : Nat // p < s.size } => #[.int .u8 ((s[x.1]'x.2).toNat : Int)]) (fun _ => rfl)
    (fun x W => numY ⟨R, b0, b1, b2, b3, b4, b5, b6, b7⟩ w s a0 x.1 W) (fun x W => numG ⟨R, b0, b1, b2, b3, b4, b5, b6, b7⟩ w s a0 (x.1 + 1) W) (numX ⟨R, b0, b1, b2, b3, b4, b5, b6, b7⟩ w s a0) (numD ⟨R, b0, b1, b2, b3, b4, b5, b6, b7⟩ w s a0) ?ob ?og ?ox ?od
    (fun x => { tmps := #[.pointer (some ⟨R, 0, none⟩), .pointer (some ⟨b0, 0, none⟩), .pointer (some ⟨b1, 0, none⟩), .pointer (some ⟨b2, 0, none⟩), .pointer (some ⟨b3, 0, none⟩), .pointer (some ⟨b4, 0, none⟩), .pointer (some ⟨b5, 0, none⟩), .pointer (some ⟨b6, 0, none⟩), .int .u8 ((s[x.1]'x.2).toNat : Int), undef, .pointer (some ⟨R, 0, none⟩), .pointer (some ⟨R, 0, none⟩), .pointer (some ⟨R, 0, none⟩), .pointer (some ⟨R, 1, none⟩), .int .i64 (a0 : Int), .pointer (some ⟨R, 0, none⟩), .pointer (some ⟨R, 0, none⟩), .pointer (some ⟨R, 0, none⟩), .func (.func 94) #[] #[.pointer (some ⟨b7, 0, none⟩)], .int .u8 ((s[x.1]'x.2).toNat : Int), undef, undef, undef, undef, undef, undef, undef, undef, undef, undef, undef, undef, undef, undef, undef, undef, undef, undef, undef, undef, undef, undef, undef, undef, undef, undef, undef, undef, undef, undef, undef, undef, undef, undef, undef, undef, undef, undef, undef, undef], defers := [] }) ?assign ?body ?seq ?done ?stop
  case assign =>
    intro l x W K hK
    gi_wp2
    exact hK
  case body =>
    rintro l ⟨p, hp⟩ W ⟨h0, h1, h10, hcont, hn⟩
    have hsn : seg s a0 (p + 1) = seg s a0 p ++ [s[p]'hp] := seg_snoc s a0 p h0 hp
    have hsl : (seg s a0 p).length = p - a0 := seg_length s a0 p h0 (Nat.le_of_lt hp)
    have hdec : Wire.dec (seg s a0 (p + 1)) = Wire.decStep (p - a0) (Wire.dec (seg s a0 p)) (s[p]'hp) := by rw [hsn, Wire.dec_snoc, hsl]
    have hrg := Wire.dec_range (seg s a0 (p + 1))
    have hK0 : KeepsFrom W0.heap.size W W := KeepsFrom.refl _ _
    dsimp only
    generalize hbb : s[p]'hp = bb at hsn hdec ⊢
    have hb8 : (bb.toNat : Int) < 256 := by have := bb.toNat_lt; omega
    generalize hkk : p - a0 = k at hn hdec hsl h10
    generalize hsg : (Wire.dec (seg s a0 (p + 1))).1 = sg1 at hrg
    generalize hrs : (Wire.dec (seg s a0 (p + 1))).2 = rs1 at hrg
    have hd1 : sg1 = (Wire.decStep k (Wire.dec (seg s a0 p)) bb).1 := by rw [← hsg, hdec]
    have hd2 : rs1 = (Wire.decStep k (Wire.dec (seg s a0 p)) bb).2 := by rw [← hrs, hdec]
    generalize (Wire.dec (seg s a0 p)) = D at hn hd1 hd2 hdec
    obtain ⟨sg, rs⟩ := D
    dsimp only at hn
    have H1 := Lib.hid hd1; clear hd1
    have H2 := Lib.hid hd2; clear hd2
    have HD := Lib.hid hdec; clear hdec
    have HS := Lib.hid hsn; clear hsn
    have HL := Lib.hid hsl; clear hsl
    have HK := Lib.hid hkk; clear hkk
    have HBB := Lib.hid hbb; clear hbb
    have HSG := Lib.hid hsg; clear hsg
    have HRS := Lib.hid hrs; clear hrs
    have HC := Lib.hid hcont; clear hcont
    have HRG := Lib.hid hrg; clear hrg
    have hw0 : w.heap.size ≤ b0 := by rw [HB.out]; exact Nat.le_refl _
    have HW0 := Lib.hid hw0; clear hw0
    have y4 : W.cell? ⟨b4, 0, none⟩ = some (.int .i64 (k : Int)) := hn.x4.cell
    have y5 : W.cell? ⟨b5, 0, none⟩ = some (.int .i64 sg) := hn.x5.cell
    have y6 : W.cell? ⟨b6, 0, none⟩ = some (.int .i64 rs) := hn.x6.cell
    have z4 : W.frozen? ⟨b4, 0, none⟩ = false := hn.x4.frozen
    have z5 : W.frozen? ⟨b5, 0, none⟩ = false := hn.x5.frozen
    have z6 : W.frozen? ⟨b6, 0, none⟩ = false := hn.x6.frozen
    gi_upto_if 24 with (fail)
    gi_cut [] from 23 (fun W1 => NumI ⟨R, b0, b1, b2, b3, b4, b5, b6, b7⟩ w W1 s a0 ((p : Int) + 1) (k : Int) sg1 rs1 ∧ KeepsFrom W0.heap.size W W1)
    case first =>
      by_cases hk0 : k = 0
      · have hq : ((k : Int) == 0) = true := by rw [beq_iff_eq]; omega
        have hn5 := hn.set5 hrise HW0.out ((bb.toNat : Int) % 2)
        obtain ⟨n56, n65⟩ : b5 ≠ b6 ∧ b6 ≠ b5 := by have := hrise; simp only [Vars.rising] at this; omega
        gi_wp2
        gi_meet
        case rel =>
          have e1 := H1.out
          have e2 := H2.out
          simp only [Wire.decStep, if_pos hk0] at e1 e2
          refine ⟨?_, ((KeepsOthers.setCell _ _ _).trans (KeepsOthers.setCell _ _ _)).from _⟩
          rw [e1, e2]
          exact hn5.set6 hrise HW0.out _
      · have hq : ((k : Int) == 0) = false := by rw [beq_eq_false_iff_ne]; omega
        gi_wp2
        have m1 : IntKind.i64.wrap (7 * (k : Int)) = 7 * (k : Int) := IntWalk.i64_in _ (by omega)
        have m2 : IntKind.i64.wrap (7 * (k : Int) - 1) = 7 * (k : Int) - 1 := IntWalk.i64_in _ (by omega)
        refine wpIn_region_quiet_tail 7 (by kernel_rfl) (by kernel_rfl) (by kernel_rfl) ?_
        simp only [List.take_succ_cons, List.take_zero, List.drop_succ_cons, List.drop_zero]
        repeat (gi_big_quiet_step (fail))
        refine wpQuietIn_nil ?_
        rintro _ ⟨nq, rfl⟩
        gi_wp2
        gi_meet
        case rel =>
          have e1 := H1.out
          have e2 := H2.out
          simp only [Wire.decStep, if_neg hk0] at e1 e2
          refine ⟨?_, (((⟨Nat.le_refl _, fun _ _ h _ => h⟩ : KeepsOthers W (W.drewN nq))).trans (KeepsOthers.setCell _ _ _)).from _⟩
          simp only [wrap64_w64]
          rw [e1, e2]
          exact (hn.drewN nq).set6 hrise HW0.out _
    case rest =>
      obtain ⟨hn1, hK1⟩ := hcut
      clear hn y4 y5 y6 z4 z5 z6 H1 H2 HD
      have y4 : wc.cell? ⟨b4, 0, none⟩ = some (.int .i64 (k : Int)) := hn1.x4.cell
      have z4 : wc.frozen? ⟨b4, 0, none⟩ = false := hn1.x4.frozen
      have hn2 := hn1.set4 hrise HW0.out ((k : Int) + 1)
      have hK2 : KeepsFrom W0.heap.size W (wc.setCell ⟨b4, 0, none⟩ (.int .i64 ((k : Int) + 1))) := hK1.trans ((KeepsOthers.setCell _ _ _).from _)
      gi_upto_if 38 with (fail)
      generalize wc.setCell ⟨b4, 0, none⟩ (.int .i64 ((k : Int) + 1)) = W2 at hn2 hK2 ⊢
      clear y4 z4 hn1 hK1
      have y4 : W2.cell? ⟨b4, 0, none⟩ = some (.int .i64 ((k : Int) + 1)) := hn2.x4.cell
      have y5 : W2.cell? ⟨b5, 0, none⟩ = some (.int .i64 sg1) := hn2.x5.cell
      have y6 : W2.cell? ⟨b6, 0, none⟩ = some (.int .i64 rs1) := hn2.x6.cell
      have z6 : W2.frozen? ⟨b6, 0, none⟩ = false := hn2.x6.frozen
      by_cases hb : (bb.toNat : Int) < 128
      · have hvr : -9223372036854775808 ≤ -1 - rs1 ∧ -1 - rs1 ≤ 9223372036854775807 := by have := HRG.out; omega
        gi_upto_if 42 with (fail)
        gi_cut [] from 38 (fun W3 => NumI ⟨R, b0, b1, b2, b3, b4, b5, b6, b7⟩ w W3 s a0 ((p : Int) + 1) ((k : Int) + 1) sg1 (Wire.valOf (sg1, rs1)) ∧ KeepsFrom W0.heap.size W W3)
        case first =>
          by_cases hs1 : sg1 = 1
          · have HS1 := Lib.hid hs1
            have hq : (sg1 == 1) = true := by rw [beq_iff_eq]; exact hs1
            clear hs1
            gi_wp2
            gi_meet
            case rel =>
              refine ⟨?_, hK2.trans ((KeepsOthers.setCell _ _ _).from _)⟩
              rw [show Wire.valOf (sg1, rs1) = -1 - rs1 from if_pos HS1.out]
              exact hn2.set6 hrise HW0.out _
          · have HS1 := Lib.hid hs1
            have hq : (sg1 == 1) = false := by rw [beq_eq_false_iff_ne]; exact hs1
            clear hs1
            gi_wp2
            gi_meet
            case rel =>
              rw [show Wire.valOf (sg1, rs1) = rs1 from if_neg HS1.out]
              exact ⟨hn2, hK2⟩
        case rest =>
          obtain ⟨hn3, hK3⟩ := hcut
          clear y4 y5 y6 z6 hn2 hK2 hvr
          have hvd : Wire.valOf (sg1, rs1) = Wire.valOf (Wire.dec (seg s a0 (p + 1))) := by rw [← HSG.out, ← HRS.out]
          have hvr : Wire.inRange (Wire.valOf (sg1, rs1)) := by
            have := HRG.out
            unfold Wire.inRange Wire.valOf; split <;> omega
          generalize Wire.valOf (sg1, rs1) = v at hn3 hvd hvr
          have HVD := Lib.hid hvd; clear hvd
          have HVR := Lib.hid hvr; clear hvr
          have g0 := cell_regrown (show wc.cell? ⟨b0, 0, none⟩ = some (.pointer (some ⟨R, 0, none⟩)) from hn3.x0.cell)
          have gR := cell_regrown (show wc.cell? ⟨R, 0, none⟩ = some (.string s) from hn3.reader.cell0)
          have g3 := cell_regrown (show wc.cell? ⟨b3, 0, none⟩ = some (.int .i64 (a0 : Int)) from hn3.x3.cell)
          have g6 := cell_regrown (show wc.cell? ⟨b6, 0, none⟩ = some (.int .i64 v) from hn3.x6.cell)
          have cN : ∀ d os, CallsIn (Fence.wide.inRound l) (7 - 1) Tryz.prog 59 #[.int .i64 v] (grow (redrawn wc d) os) fun e w'' => e = .returned (.string ⟨(Wire.num v).toArray⟩) ∧ ∃ q : Regrown, w'' = grow (redrawn wc q.d) q.os :=
            fun d os => CallsIn.regrown_of (CallsIn.inRound l (callsIn_wide.2 (num_any v HVR.out.1 HVR.out.2 _)))
          have hnl : (⟨(Wire.num v).toArray⟩ : ByteArray).size ≤ 9223372036854775807 := by
            have := Wire.num_len v HVR.out
            show (Wire.num v).toArray.size ≤ _
            simp; omega
          have hxs : (s.extract a0 s.size).size ≤ 9223372036854775807 := by simp; omega
          have cH : ∀ (t : Bool), decide ((⟨(Wire.num v).toArray⟩ : ByteArray).data.toList <+: (s.extract a0 s.size).data.toList) = t → ∀ d os, CallsIn (Fence.wide.inRound l) (7 - 1) Tryz.prog 87 #[.string (s.extract a0 s.size), .string ⟨(Wire.num v).toArray⟩] (grow (redrawn wc d) os) fun e w'' => e = .returned (.bool t) ∧ ∃ q : Regrown, w'' = grow (redrawn wc q.d) q.os :=
            fun t ht d os => CallsIn.inRound l (callsIn_wide.2 ((hasPrefix_any _ _ hxs hnl _).mono (fun e w'' ⟨he, hw⟩ => ⟨by rw [he, ht], ⟨⟨d, os⟩, hw.symm⟩⟩)))
          by_cases hpre : Wire.num v <+: s.data.toList.drop a0
          · have hd : decide ((⟨(Wire.num v).toArray⟩ : ByteArray).data.toList <+: (s.extract a0 s.size).data.toList) = true := by
              rw [decide_eq_true_iff, extract_drop]; exact hpre
            have cH1 := cH true hd
            clear cH hd
            gi_wp2
            refine wpIn_region_class (fun w' => ∃ q : Regrown, w' = grow (redrawn wc q.d) q.os) (by kernel_rfl) (by kernel_rfl) (by kernel_rfl) ⟨⟨wc.drawn + 1, #[]⟩, by rw [grow_empty]; rfl⟩ ?_
            repeat (refine wpQuietIn_step (fun _ _ _ _ => trivial) (fun K hK => ?_); go_simp; first | (refine hK _ ?_; clear hK K) | (apply Exists.intro; refine ⟨fun _ => ?_, hK _ ?_⟩; (first | exact cN _ _ | exact cH1 _ _); clear hK K))
            refine wpQuietIn_nil ?_
            rintro _ ⟨⟨dq, osq⟩, rfl⟩
            have hbq := below_regrown wc dq osq
            have hn4 := hn3.below hbq
            have hK4 : KeepsFrom W0.heap.size W (grow (redrawn wc dq) osq) := hK3.trans ⟨hbq.size, fun kk o _ hk _ => (hbq.block kk (Array.getElem?_eq_some_iff.1 hk).1).trans hk⟩
            clear g0 gR g3 g6 cN cH1 hbq hn3 hK3
            generalize grow (redrawn wc dq) osq = W4 at hn4 hK4 ⊢
            have y1 : W4.cell? ⟨b1, 0, none⟩ = some (.int .i64 0) := hn4.x1.cell
            have y2 : W4.cell? ⟨b2, 0, none⟩ = some .nilIface := hn4.x2.cell
            have y6 : W4.cell? ⟨b6, 0, none⟩ = some (.int .i64 v) := hn4.x6.cell
            have z1 : W4.frozen? ⟨b1, 0, none⟩ = false := hn4.x1.frozen
            have z2 : W4.frozen? ⟨b2, 0, none⟩ = false := hn4.x2.frozen
            obtain ⟨n12, n21⟩ : b1 ≠ b2 ∧ b2 ≠ b1 := by have := hrise; simp only [Vars.rising] at this; omega
            gi_wp2
            have hrise' := hrise
            obtain ⟨q0, q1, q2, q3, q4, q5, q6, q7⟩ := hrise'
            dsimp only at q0 q1 q2 q3 q4 q5 q6 q7
            have hw0 := HW0.out
            have hun := Wire.num_unique (k := p - a0) (drop_get s a0 p h0 hp) (by rw [HBB.out]; omega) HC.out HVR.out hpre
            refine ⟨hK4.trans (((KeepsOthers.setCell _ _ _).trans (KeepsOthers.setCell _ _ _)).from _), v, HVR.out, hpre, ?_, ?_, ?_, ?_, ?_⟩
            · show p + 1 = a0 + (Wire.num v).length
              have e3 : a0 ≤ p := h0
              omega
            · exact grown_set (grown_set hn4.grown (b := b1) (by omega) _ rfl _) (b := b2) (by omega) _ rfl _
            · exact (hn4.reader.past _ (by show R ≠ b1; omega) _).past _ (by show R ≠ b2; omega) _
            · exact boxed_past (hn4.x1.set _) _ (by show b1 ≠ b2; omega) _
            · exact (boxed_past hn4.x2 ⟨b1, 0, none⟩ (by show b2 ≠ b1; omega) _).set _
          · have hd : decide ((⟨(Wire.num v).toArray⟩ : ByteArray).data.toList <+: (s.extract a0 s.size).data.toList) = false := by
              rw [decide_eq_false_iff_not, extract_drop]; exact hpre
            have cH1 := cH false hd
            clear cH hd
            gi_wp2
            refine wpIn_region_class (fun w' => ∃ q : Regrown, w' = grow (redrawn wc q.d) q.os) (by kernel_rfl) (by kernel_rfl) (by kernel_rfl) ⟨⟨wc.drawn + 1, #[]⟩, by rw [grow_empty]; rfl⟩ ?_
            repeat (refine wpQuietIn_step (fun _ _ _ _ => trivial) (fun K hK => ?_); go_simp; first | (refine hK _ ?_; clear hK K) | (apply Exists.intro; refine ⟨fun _ => ?_, hK _ ?_⟩; (first | exact cN _ _ | exact cH1 _ _); clear hK K))
            refine wpQuietIn_nil ?_
            rintro _ ⟨⟨dq, osq⟩, rfl⟩
            have hbq := below_regrown wc dq osq
            have hn4 := hn3.below hbq
            have hK4 : KeepsFrom W0.heap.size W (grow (redrawn wc dq) osq) := hK3.trans ⟨hbq.size, fun kk o _ hk _ => (hbq.block kk (Array.getElem?_eq_some_iff.1 hk).1).trans hk⟩
            clear g0 gR g3 g6 cN cH1 hbq hn3 hK3
            generalize grow (redrawn wc dq) osq = W4 at hn4 hK4 ⊢
            gi_wp2
            refine ⟨hK4, fun v' hv' h' => ?_, _, hn4.grown, hn4.reader, hn4.x1, hn4.x2⟩
            have hun := Wire.num_unique (k := p - a0) (drop_get s a0 p h0 hp) (by rw [HBB.out]; omega) HC.out hv' h'
            refine hpre ?_
            have e3 : a0 ≤ p := h0
            have : (s.data.toList.drop a0).take (p - a0 + 1) = seg s a0 (p + 1) := by unfold seg; rw [show p + 1 - a0 = p - a0 + 1 from by omega]
            rw [this, ← HVD.out] at hun
            rw [← hun.1]; exact h'
      · have hcont1 : ∀ b ∈ seg s a0 (p + 1), 128 ≤ b.toNat := by
          rw [HS.out]
          intro b hbm
          rcases List.mem_append.1 hbm with h | h
          · exact HC.out b h
          · rw [List.mem_singleton.1 h]; omega
        have HC1 := Lib.hid hcont1; clear hcont1
        by_cases hk9 : (k : Int) + 1 = 10
        · have hq : ((k : Int) + 1 == 10) = true := by rw [beq_iff_eq]; omega
          have HK9 := Lib.hid hk9; clear hk9
          gi_wp2
          refine ⟨hK2, fun v hv => ?_, (p : Int) + 1, hn2.grown, hn2.reader, hn2.x1, hn2.x2⟩
          refine Wire.num_none (k := p + 1 - a0) HC1.out (.inl ?_) v hv
          have e1 := HK.out
          have e2 := HK9.out
          have e3 : a0 ≤ p := h0
          omega
        · have hq : ((k : Int) + 1 == 10) = false := by rw [beq_eq_false_iff_ne]; omega
          gi_wp2
          have e1 := HK.out
          have e3 : a0 ≤ p := h0
          have e4 : p < s.size := hp
          refine ⟨hK2, ?_, ?_, ?_, HC1.out, ?_⟩
          · show a0 ≤ p + 1; omega
          · show p + 1 ≤ s.size; omega
          · show p + 1 - a0 < 10; omega
          · show NumI _ _ _ _ _ ((p + 1 : Nat) : Int) ((p + 1 - a0 : Nat) : Int) (Wire.dec (seg s a0 (p + 1))).1 (Wire.dec (seg s a0 (p + 1))).2
            rw [HSG.out, HRS.out, show ((p + 1 : Nat) : Int) = (p : Int) + 1 from by omega, show ((p + 1 - a0 : Nat) : Int) = (k : Int) + 1 from by omega]
            exact hn2
  case ob =>
    intro x A B row ⟨h1, h2, h3, h4, h5⟩ hg hr
    exact ⟨h1, h2, h3, h4, h5.own hg (fun r e => ⟨Nat.le_trans hI.grown.size (hr r e).1, (hr r e).2⟩)⟩
  case og =>
    intro x A B row ⟨h1, h2, h3, h4, h5⟩ hg hr
    exact ⟨h1, h2, h3, h4, h5.own hg (fun r e => ⟨Nat.le_trans hI.grown.size (hr r e).1, (hr r e).2⟩)⟩
  case ox =>
    intro c x A B row h hg hr
    have hr' : ∀ r, row = some r → w.heap.size ≤ r ∧ ∃ o : Obj, A.heap[r]? = some o ∧ o.isCells = false := fun r e => ⟨Nat.le_trans hI.grown.size (hr r e).1, (hr r e).2⟩
    unfold numX at h ⊢
    split at h
    · obtain ⟨v, h1, h2, h3, h4⟩ := h
      exact ⟨v, h1, h2, h3, numE_own h4 hg hr'⟩
    · obtain ⟨h1, q, h4⟩ := h
      exact ⟨h1, q, numE_own h4 hg hr'⟩
    · exact h.elim
  case od =>
    intro x A B row ⟨h1, q, h4⟩ hg hr
    exact ⟨h1, q, numE_own h4 hg (fun r e => ⟨Nat.le_trans hI.grown.size (hr r e).1, (hr r e).2⟩)⟩
  case seq =>
    intro l K Jx W hKB hK hgr hY
    refine (bytes1_in 8 l R b7 s hs a0 ha (fun p W => numG ⟨R, b0, b1, b2, b3, b4, b5, b6, b7⟩ w s a0 p W ∧ K W) (fun p W => numY ⟨R, b0, b1, b2, b3, b4, b5, b6, b7⟩ w s a0 p W ∧ K W) Jx ?_ ?_ ?_ ?_ ?_ ?_ W ?_).mono ?_
    · rintro p W ⟨⟨_, _, _, _, hn⟩, _⟩
      exact ⟨hn.x7.cell, hn.reader.cell0, hn.reader.cell1, hn.reader.frozen 1⟩
    · rintro p W ⟨⟨_, _, _, _, hn⟩, _⟩
      exact ⟨hn.x7.cell, hn.reader.cell0, hn.reader.cell1⟩
    · rintro p W ⟨⟨h1, h2, h3, h4, hn⟩, hk⟩ hp
      exact ⟨⟨h1, hp, h3, h4, hn.setR hrise _⟩, hKB.setCell hk hn.reader.cell1 _⟩
    · rintro p W m ⟨⟨h1, h2, h3, h4, hn⟩, hk⟩
      exact ⟨⟨h1, h2, h3, h4, hn.drewN m⟩, hKB.drewN hk m⟩
    · rintro p W m ⟨⟨h1, h2, h3, h4, hn⟩, hk⟩
      exact ⟨⟨h1, h2, h3, h4, hn.drewN m⟩, hKB.drewN hk m⟩
    · rintro p W hp ⟨hy, hk⟩
      exact hY ⟨p, hp⟩ W hy hk
    · have hseg : seg s a0 a0 = [] := by simp [seg]
      refine ⟨⟨Nat.le_refl _, ha, by omega, by rw [hseg]; simp, ?_⟩, hK⟩
      rw [hseg, Nat.sub_self]
      exact hI.own hgr (fun r e => by cases e)
    · rintro e W' ⟨hv, (⟨⟨h1, h2, h3, h4, hn⟩, hk⟩ | hx)⟩
      · exact ⟨hv, .inl ⟨⟨fun v hv' => Wire.num_none (k := s.size - a0) h4 (.inr (by simp)) v hv', _, hn.grown, hn.reader, hn.x1, hn.x2⟩, hk⟩⟩
      · exact ⟨hv, .inr hx⟩
  case done =>
    rintro D W hD ⟨hno, q, hg, hr, h1, h2⟩ hKd
    have hev : W.cell? ⟨0, 0, none⟩ = some (.iface 157 (.pointer (some ea))) := (World.cell?_of_block (hg.block 0 (by have := World.block_lt_of_cell? _ _ hE; exact this) (by simpa using hR0.symm))).trans hE
    have hrise' := hrise
    obtain ⟨q0, q1, q2, q3, q4, q5, q6, q7⟩ := hrise'
    dsimp only at q0 q1 q2 q3 q4 q5 q6 q7
    have hw0 : w.heap.size ≤ b0 := by rw [HB.out]; exact Nat.le_refl _
    have hb0 : 0 < w.heap.size := World.block_lt_of_cell? _ _ hE
    have n01 : (0 : Nat) ≠ b1 := by omega
    have n10 : b1 ≠ 0 := by omega
    have n12 : b1 ≠ b2 := by omega
    have n21 : b2 ≠ b1 := by omega
    have y1 := h1.cell
    have y2 := h2.cell
    have z1 := h1.frozen
    have z2 := h2.frozen
    dsimp only at y1 y2 z1 z2
    have f1 : w.grownBy (((W.setCell ⟨b1, 0, none⟩ (.int .i64 0)).setCell ⟨b2, 0, none⟩ (.iface 157 (.pointer (some ea)))).drew) (some R) := grown_below (grown_set (grown_set hg (b := b1) (by omega) ⟨b1, 0, none⟩ rfl (.int .i64 0)) (b := b2) (by omega) ⟨b2, 0, none⟩ rfl (.iface 157 (.pointer (some ea)))) ⟨rfl, rfl, rfl, Nat.le_refl _, fun _ _ => rfl⟩
    have f2 : ReaderAt (((W.setCell ⟨b1, 0, none⟩ (.int .i64 0)).setCell ⟨b2, 0, none⟩ (.iface 157 (.pointer (some ea)))).drew) R s q := (hr.past ⟨b1, 0, none⟩ (by show R ≠ b1; omega) _).past ⟨b2, 0, none⟩ (by show R ≠ b2; omega) _
    have f3 : Boxed (((W.setCell ⟨b1, 0, none⟩ (.int .i64 0)).setCell ⟨b2, 0, none⟩ (.iface 157 (.pointer (some ea)))).drew) b1 3 (.int .i64 0) := boxed_past (h1.set (.int .i64 0)) ⟨b2, 0, none⟩ (by show b1 ≠ b2; omega) _
    have f4 : Boxed (((W.setCell ⟨b1, 0, none⟩ (.int .i64 0)).setCell ⟨b2, 0, none⟩ (.iface 157 (.pointer (some ea)))).drew) b2 82 (.iface 157 (.pointer (some ea))) := (boxed_past h2 ⟨b1, 0, none⟩ (by show b2 ≠ b1; omega) _).set _
    have f5 : (((W.setCell ⟨b1, 0, none⟩ (.int .i64 0)).setCell ⟨b2, 0, none⟩ (.iface 157 (.pointer (some ea)))).drew).heap[D]? = some (.deferred (some [])) := ((KeepsOthers.setCell _ _ _).trans (KeepsOthers.setCell _ _ _)).same D _ hKd rfl
    have F5 := Lib.hid f5
    clear q0 q1 q2 q3 q4 q5 q6 q7 hw0 hb0 f5
    gi_wp2
    gi_region
    all_goals
      gi_wp2
      refine ⟨by simp, .inl ⟨_, _, rfl, run_takeDeferred F5.out, ?_⟩⟩
      exact ⟨_, number_results _ _ b1 b2 0 _ rfl rfl (boxed_put f3 _ F5.out rfl).cell (boxed_put f4 _ F5.out rfl).cell, grown_put f1 (Nat.le_trans hI.grown.size hD) _, .inr ⟨hno, rfl, q, reader_put f2 _ F5.out rfl⟩⟩
  case stop =>
    rintro D c x W hD hx hKd
    unfold numX at hx
    split at hx
    · obtain ⟨v, hv1, hv2, hv3, hg, hr, h1, h2⟩ := hx
      gi_wp2
      refine ⟨by simp, .inl ⟨_, _, rfl, run_takeDeferred hKd, ?_⟩⟩
      refine ⟨_, number_results _ _ b1 b2 v .nilIface rfl rfl (boxed_put h1 _ hKd rfl).cell (boxed_put h2 _ hKd rfl).cell, grown_put hg (Nat.le_trans hI.grown.size hD) _, .inl ⟨v, hv1, hv2, rfl, ?_⟩⟩
      have := reader_put hr (.deferred none) hKd rfl
      rw [← hv3]
      exact this
    · obtain ⟨hno, q, hg, hr, h1, h2⟩ := hx
      have hev : W.cell? ⟨0, 0, none⟩ = some (.iface 157 (.pointer (some ea))) := (World.cell?_of_block (hg.block 0 (by have := World.block_lt_of_cell? _ _ hE; exact this) (by simpa using hR0.symm))).trans hE
      have hrise' := hrise
      obtain ⟨q0, q1, q2, q3, q4, q5, q6, q7⟩ := hrise'
      dsimp only at q0 q1 q2 q3 q4 q5 q6 q7
      have hw0 : w.heap.size ≤ b0 := by rw [HB.out]; exact Nat.le_refl _
      have hb0 : 0 < w.heap.size := World.block_lt_of_cell? _ _ hE
      have n01 : (0 : Nat) ≠ b1 := by omega
      have n10 : b1 ≠ 0 := by omega
      have n12 : b1 ≠ b2 := by omega
      have n21 : b2 ≠ b1 := by omega
      have y1 := h1.cell
      have y2 := h2.cell
      have z1 := h1.frozen
      have z2 := h2.frozen
      dsimp only at y1 y2 z1 z2
      have f1 : w.grownBy (((W.setCell ⟨b1, 0, none⟩ (.int .i64 0)).setCell ⟨b2, 0, none⟩ (.iface 157 (.pointer (some ea)))).drew) (some R) := grown_below (grown_set (grown_set hg (b := b1) (by omega) ⟨b1, 0, none⟩ rfl (.int .i64 0)) (b := b2) (by omega) ⟨b2, 0, none⟩ rfl (.iface 157 (.pointer (some ea)))) ⟨rfl, rfl, rfl, Nat.le_refl _, fun _ _ => rfl⟩
      have f2 : ReaderAt (((W.setCell ⟨b1, 0, none⟩ (.int .i64 0)).setCell ⟨b2, 0, none⟩ (.iface 157 (.pointer (some ea)))).drew) R s q := (hr.past ⟨b1, 0, none⟩ (by show R ≠ b1; omega) _).past ⟨b2, 0, none⟩ (by show R ≠ b2; omega) _
      have f3 : Boxed (((W.setCell ⟨b1, 0, none⟩ (.int .i64 0)).setCell ⟨b2, 0, none⟩ (.iface 157 (.pointer (some ea)))).drew) b1 3 (.int .i64 0) := boxed_past (h1.set (.int .i64 0)) ⟨b2, 0, none⟩ (by show b1 ≠ b2; omega) _
      have f4 : Boxed (((W.setCell ⟨b1, 0, none⟩ (.int .i64 0)).setCell ⟨b2, 0, none⟩ (.iface 157 (.pointer (some ea)))).drew) b2 82 (.iface 157 (.pointer (some ea))) := (boxed_past h2 ⟨b1, 0, none⟩ (by show b2 ≠ b1; omega) _).set _
      have f5 : (((W.setCell ⟨b1, 0, none⟩ (.int .i64 0)).setCell ⟨b2, 0, none⟩ (.iface 157 (.pointer (some ea)))).drew).heap[D]? = some (.deferred (some [])) := ((KeepsOthers.setCell _ _ _).trans (KeepsOthers.setCell _ _ _)).same D _ hKd rfl
      have F5 := Lib.hid f5
      clear q0 q1 q2 q3 q4 q5 q6 q7 hw0 hb0 f5
      gi_wp2
      gi_region
      all_goals
        gi_wp2
        refine ⟨by simp, .inl ⟨_, _, rfl, run_takeDeferred F5.out, ?_⟩⟩
        exact ⟨_, number_results _ _ b1 b2 0 _ rfl rfl (boxed_put f3 _ F5.out rfl).cell (boxed_put f4 _ F5.out rfl).cell, grown_put f1 (Nat.le_trans hI.grown.size hD) _, .inr ⟨hno, rfl, q, reader_put f2 _ F5.out rfl⟩⟩
    · exact hx.elim
end Go.Proofs.YtmijlcilnaeppaaGreatDoor

/- (*reader).number, where the place is none of the text's. -/
set_option linter.unusedSimpArgs false
set_option linter.unusedVariables false
namespace Go.Proofs.YtmijlcilnaeppaaGreatDoor
open Go Go.RowKit Go.Shelf Go.Sort
attribute [local go_sem] Oper.semAt_some

set_option maxRecDepth 100000 in
set_option maxHeartbeats 1000000 in
theorem bytes1_out (n : Nat) (l R Bx : Nat) (s : ByteArray) (p : Int) (hp : p < 0 ∨ (s.size : Int) ≤ p) (W : World)
    (c1 : W.cell? ⟨Bx, 0, none⟩ = some (.pointer (some ⟨R, 0, none⟩))) (c2 : W.cell? ⟨R, 0, none⟩ = some (.string s)) (c3 : W.cell? ⟨R, 1, none⟩ = some (.int .i64 p)) :
    CallsIn Fence.wide n Tryz.prog 94 #[.func (.yield l) #[] #[], .pointer (some ⟨Bx, 0, none⟩)] W fun e W' => (∃ v, e = .returned v) ∧ ∃ m, W' = W.drewN m := by
  refine callsIn_of_wp Tryz.func94 rfl trivial ?_ rfl
  simp only [Tryz.ntmps94, List.size_toArray, List.length_cons, List.length_nil, Nat.reduceAdd, Nat.reduceSub, Array.replicate_succ, Array.replicate_zero, List.push_toArray, List.append_toArray, List.nil_append, List.cons_append]
  gi_wp2
  gi_loopg [] (0 : Nat) (fun _ wr => wr = W)
  case atStart => rfl
  case round =>
    subst hrel
    by_cases h : p < 0
    · have d1 : decide ((0 : Int) ≤ p) = false := by simp; omega
      gi_wp2
      gi_big_quiet_th (fail)
      gi_wp2
      go_end0
      exact ⟨⟨_, rfl⟩, nq, rfl⟩
    · have d1 : decide ((0 : Int) ≤ p) = true := by simp; omega
      have d2 : decide (p < (s.size : Int)) = false := by simp; omega
      gi_wp2
      gi_big_quiet_th (fail)
      gi_wp2
      go_end0
      exact ⟨⟨_, rfl⟩, nq, rfl⟩

set_option maxRecDepth 100000 in
set_option maxHeartbeats 2000000 in
theorem number_out (s : ByteArray) (R : Nat) (a0 : Int) (ha : a0 < 0 ∨ (s.size : Int) ≤ a0) (ea : Addr) (w : World) (hR : ReaderAt w R s a0)
    (hE : w.cell? ⟨0, 0, none⟩ = some (.iface 157 (.pointer (some ea)))) (hR0 : R ≠ 0) :
    CallsIn Fence.wide 9 Tryz.prog 75 #[.pointer (some ⟨R, 0, none⟩)] w fun e w' => w.grownBy w' (some R) ∧ e = .returned (.tuple #[.int .i64 0, .iface 157 (.pointer (some ea))]) ∧ ∃ q, ReaderAt w' R s q := by
  refine callsIn_of_wp_marks Tryz.func75 rfl trivial ?_ rfl
  simp only [Tryz.ntmps75, List.size_toArray, List.length_cons, List.length_nil, Nat.reduceAdd, Nat.reduceSub, Array.replicate_succ, Array.replicate_zero, List.push_toArray, List.append_toArray, List.nil_append, List.cons_append]
  have hlt : R < w.heap.size := hR.lt
  have hmix : Tryz.prog.follows .mixedOrders = true := by kernel_rfl
  have k1 : ∀ o1 o2 o3, (((w.alloc o1).alloc o2).alloc o3).cell? ⟨R, 1, none⟩ = some (.int .i64 a0) := fun o1 o2 o3 =>
    (((((Below.refl w.heap.size w).alloc (Nat.le_refl _) o1).alloc (by simp) o2).alloc (by simp; omega) o3).cell (p := ⟨R, 1, none⟩) hlt).trans hR.cell1
  gi_wp2
  refine wpIn_scope_wide ?_
  gi_wp2
  refine wpIn_label ?_
  gi_wp2_with (refine ⟨trivial, ?_⟩; gi_at_call 86; refine (bytes_in _ _ trivial rfl _ _).mono ?_; rintro e w' ⟨rfl, rfl⟩)
  have hrise : Vars.rising ⟨R, w.heap.size, w.heap.size + 1, w.heap.size + 1 + 1, w.heap.size + 1 + 1 + 1, w.heap.size + 1 + 1 + 1 + 1, w.heap.size + 1 + 1 + 1 + 1 + 1, w.heap.size + 1 + 1 + 1 + 1 + 1 + 1, w.heap.size + 1 + 1 + 1 + 1 + 1 + 1 + 1⟩ := by
    simp only [Vars.rising]; omega
  have hI := numI_start w R s a0 hR
  show Code.wpIn _ _ _ _ _ _ (numBlocks w R a0)
  generalize numBlocks w R a0 = W0 at hI ⊢
  clear k1
  generalize w.heap.size + 1 + 1 + 1 + 1 + 1 + 1 + 1 = b7 at hrise hI ⊢
  generalize w.heap.size + 1 + 1 + 1 + 1 + 1 + 1 = b6 at hrise hI ⊢
  generalize w.heap.size + 1 + 1 + 1 + 1 + 1 = b5 at hrise hI ⊢
  generalize w.heap.size + 1 + 1 + 1 + 1 = b4 at hrise hI ⊢
  generalize w.heap.size + 1 + 1 + 1 = b3 at hrise hI ⊢
  generalize w.heap.size + 1 + 1 = b2 at hrise hI ⊢
  generalize w.heap.size + 1 = b1 at hrise hI ⊢
  generalize hb0 : w.heap.size = b0 at hrise hI ⊢
  have HB := Lib.hid hb0; clear hb0
  refine wpIn_rangeFunc_joint rfl (by decide) (gf := 94) (lb := #[.pointer (some ⟨b7, 0, none⟩)]) rfl trivial (enters_of Tryz.func94 (by kernel_rfl) rfl)
    (fun x : { p : Nat // p < s.size } => #[.int .u8 ((s[x.1]'x.2).toNat : Int)]) (fun _ => rfl)
    (fun _ _ => False) (fun _ _ => False) (fun _ _ _ => False) (fun _ W => ∃ q, numE ⟨R, b0, b1, b2, b3, b4, b5, b6, b7⟩ w s q 0 W) (fun _ _ _ _ h _ _ => h) (fun _ _ _ _ h _ _ => h) (fun _ _ _ _ _ h _ _ => h) ?od
    (fun x => { tmps := #[.pointer (some ⟨R, 0, none⟩), .pointer (some ⟨b0, 0, none⟩), .pointer (some ⟨b1, 0, none⟩), .pointer (some ⟨b2, 0, none⟩), .pointer (some ⟨b3, 0, none⟩), .pointer (some ⟨b4, 0, none⟩), .pointer (some ⟨b5, 0, none⟩), .pointer (some ⟨b6, 0, none⟩), .int .u8 ((s[x.1]'x.2).toNat : Int), undef, .pointer (some ⟨R, 0, none⟩), .pointer (some ⟨R, 0, none⟩), .pointer (some ⟨R, 0, none⟩), .pointer (some ⟨R, 1, none⟩), .int .i64 a0, .pointer (some ⟨R, 0, none⟩), .pointer (some ⟨R, 0, none⟩), .pointer (some ⟨R, 0, none⟩), .func (.func 94) #[] #[.pointer (some ⟨b7, 0, none⟩)], .int .u8 ((s[x.1]'x.2).toNat : Int), undef, undef, undef, undef, undef, undef, undef, undef, undef, undef, undef, undef, undef, undef, undef, undef, undef, undef, undef, undef, undef, undef, undef, undef, undef, undef, undef, undef, undef, undef, undef, undef, undef, undef, undef, undef, undef, undef, undef, undef], defers := [] }) ?assign ?body ?seq ?done ?stop
  case assign =>
    intro l x W K hK
    gi_wp2
    exact hK
  case body =>
    intro l x W h
    exact h.elim
  case od =>
    intro x A B row ⟨q, h4⟩ hg hr
    exact ⟨q, numE_own h4 hg (fun r e => ⟨Nat.le_trans hI.grown.size (hr r e).1, (hr r e).2⟩)⟩
  case seq =>
    intro l K Jx W hKB hK hgr hY
    have hn := hI.own hgr (fun r e => by cases e)
    refine (bytes1_out 8 l R b7 s a0 ha W hn.x7.cell hn.reader.cell0 hn.reader.cell1).mono ?_
    rintro e W' ⟨hv, m, rfl⟩
    have hm := hn.drewN m
    exact ⟨hv, .inl ⟨⟨_, hm.grown, hm.reader, hm.x1, hm.x2⟩, hKB.drewN hK m⟩⟩
  case done =>
    rintro D W hD ⟨q, hg, hr, h1, h2⟩ hKd
    have hev : W.cell? ⟨0, 0, none⟩ = some (.iface 157 (.pointer (some ea))) := (World.cell?_of_block (hg.block 0 (by have := World.block_lt_of_cell? _ _ hE; exact this) (by simpa using hR0.symm))).trans hE
    have hrise' := hrise
    obtain ⟨q0, q1, q2, q3, q4, q5, q6, q7⟩ := hrise'
    dsimp only at q0 q1 q2 q3 q4 q5 q6 q7
    have hw0 : w.heap.size ≤ b0 := by rw [HB.out]; exact Nat.le_refl _
    have hb0 : 0 < w.heap.size := World.block_lt_of_cell? _ _ hE
    have n01 : (0 : Nat) ≠ b1 := by omega
    have n10 : b1 ≠ 0 := by omega
    have n12 : b1 ≠ b2 := by omega
    have n21 : b2 ≠ b1 := by omega
    have y1 := h1.cell
    have y2 := h2.cell
    have z1 := h1.frozen
    have z2 := h2.frozen
    dsimp only at y1 y2 z1 z2
    have f1 : w.grownBy (((W.setCell ⟨b1, 0, none⟩ (.int .i64 0)).setCell ⟨b2, 0, none⟩ (.iface 157 (.pointer (some ea)))).drew) (some R) := grown_below (grown_set (grown_set hg (b := b1) (by omega) ⟨b1, 0, none⟩ rfl (.int .i64 0)) (b := b2) (by omega) ⟨b2, 0, none⟩ rfl (.iface 157 (.pointer (some ea)))) ⟨rfl, rfl, rfl, Nat.le_refl _, fun _ _ => rfl⟩
    have f2 : ReaderAt (((W.setCell ⟨b1, 0, none⟩ (.int .i64 0)).setCell ⟨b2, 0, none⟩ (.iface 157 (.pointer (some ea)))).drew) R s q := (hr.past ⟨b1, 0, none⟩ (by show R ≠ b1; omega) _).past ⟨b2, 0, none⟩ (by show R ≠ b2; omega) _
    have f3 : Boxed (((W.setCell ⟨b1, 0, none⟩ (.int .i64 0)).setCell ⟨b2, 0, none⟩ (.iface 157 (.pointer (some ea)))).drew) b1 3 (.int .i64 0) := boxed_past (h1.set (.int .i64 0)) ⟨b2, 0, none⟩ (by show b1 ≠ b2; omega) _
    have f4 : Boxed (((W.setCell ⟨b1, 0, none⟩ (.int .i64 0)).setCell ⟨b2, 0, none⟩ (.iface 157 (.pointer (some ea)))).drew) b2 82 (.iface 157 (.pointer (some ea))) := (boxed_past h2 ⟨b1, 0, none⟩ (by show b2 ≠ b1; omega) _).set _
    have f5 : (((W.setCell ⟨b1, 0, none⟩ (.int .i64 0)).setCell ⟨b2, 0, none⟩ (.iface 157 (.pointer (some ea)))).drew).heap[D]? = some (.deferred (some [])) := ((KeepsOthers.setCell _ _ _).trans (KeepsOthers.setCell _ _ _)).same D _ hKd rfl
    have F5 := Lib.hid f5
    clear q0 q1 q2 q3 q4 q5 q6 q7 hw0 hb0 f5
    gi_wp2
    gi_region
    all_goals
      gi_wp2
      refine ⟨by simp, .inl ⟨_, _, rfl, run_takeDeferred F5.out, ?_⟩⟩
      exact ⟨_, number_results _ _ b1 b2 0 _ rfl rfl (boxed_put f3 _ F5.out rfl).cell (boxed_put f4 _ F5.out rfl).cell, grown_put f1 (Nat.le_trans hI.grown.size hD) _, rfl, q, reader_put f2 _ F5.out rfl⟩
  case stop =>
    intro D c x W hD h _
    exact h.elim
end Go.Proofs.YtmijlcilnaeppaaGreatDoor

/- errors.Is at a sentinel: the sentinel itself, and nil. -/
set_option linter.unusedSimpArgs false
set_option linter.unusedVariables false
namespace Go.Proofs.YtmijlcilnaeppaaGreatDoor
open Go Go.RowKit Go.Extern.Stop Go.Stop Go.Extern

theorem isTypeOf (v : Value) (w : World) : (Extern.ReflectliteType.typeOf #[.iface 157 v]).run Tryz.prog w = .ok (.iface 132 (.agg #[.pointer (some ⟨7, 157, none⟩)])) w := by kernel_rfl
theorem isComparable (w : World) : ((Extern.ReflectliteType.method fun t => do Go.Extern.Rtype.noPackHeld "Comparable" t; (fun a => Value.bool a.comparable) <$> typeInfo t) #[.agg #[.pointer (some ⟨7, 157, none⟩)]]).run Tryz.prog w = .ok (.bool true) w := by kernel_rfl
theorem isMethodComparable (v : Value) (w : World) : (Go.method 291 132 v "Comparable").run Tryz.prog w = .ok (127, v) w := by kernel_rfl
theorem isComp : (Tryz.prog.info? 157).map (·.comparable) = some true := by kernel_rfl
theorem isSize : (Tryz.prog.info? 180).map (·.size) = some 1 := by kernel_rfl

set_option maxHeartbeats 400000 in
/-- errors.Is(x, x), x a pointer to an errors.errorString. -/
theorem is_same (a : Addr) (w : World) :
    Calls Tryz.prog 76 #[.iface 157 (.pointer (some a)), .iface 157 (.pointer (some a))] w fun e w' => e = .returned (.bool true) ∧ w = w' := by
  obtain ⟨i, hi, hcmp⟩ := Option.map_eq_some_iff.1 isComp
  obtain ⟨j, hj, hjs⟩ := Option.map_eq_some_iff.1 isSize
  have h8 := @run_callFunc_extern Tryz.prog 88 _ Extern.ReflectliteType.typeOf Tryz.func88 (by kernel_rfl) (by kernel_rfl) (by kernel_rfl) (by kernel_rfl)
  have h32 := @run_callFunc_extern Tryz.prog 127 _ (Extern.ReflectliteType.method fun t => do Go.Extern.Rtype.noPackHeld "Comparable" t; pure (.bool (← typeInfo t).comparable)) Tryz.func127 (by kernel_rfl) (by kernel_rfl) (by kernel_rfl) (by kernel_rfl)
  have tT := isTypeOf
  have cT := isComparable
  have mR := isMethodComparable
  have heq := run_eql_iface_ptr_same (P := Tryz.prog) w a Tryz.underlying82 Tryz.underlying157 hi hcmp hj
  go_enter Tryz.func76, Tryz.ntmps76
  go_wp2
  refine wp_loop_rounds 1 ?_
  rw [rounds_succ]
  go_wp2
  go_ret
  exact ⟨rfl, rfl⟩

/-- errors.Is(nil, x). -/
theorem is_nil (b : Addr) (w : World) :
    Calls Tryz.prog 76 #[.nilIface, .iface 157 (.pointer (some b))] w fun e w' => e = .returned (.bool false) ∧ w = w' := by
  have hn := run_eql_iface_nil_left (P := Tryz.prog) w 157 (.pointer (some b)) Tryz.underlying82
  go_enter Tryz.func76, Tryz.ntmps76
  go_wp2
  go_ret
  exact ⟨rfl, rfl⟩
end Go.Proofs.YtmijlcilnaeppaaGreatDoor

/- ReadNum(s, at). -/
set_option linter.unusedSimpArgs false
set_option linter.unusedVariables false
namespace Go.Proofs.YtmijlcilnaeppaaGreatDoor
open Go Go.RowKit Go.Shelf Go.Sort

/-- a number's bytes stand in s from at on -/
def readsNum (s : ByteArray) (p v : Int) : Prop := 0 ≤ p ∧ p ≤ s.size ∧ Wire.inRange v ∧ Wire.num v <+: s.data.toList.drop p.toNat

theorem readsNum_unique {s : ByteArray} {p v v' : Int} (h : readsNum s p v) (h' : readsNum s p v') : v = v' := Wire.num_inj h.2.2.1 h'.2.2.1 h.2.2.2 h'.2.2.2

/-- number, at whatever place -/
theorem number_any (s : ByteArray) (hs : s.size ≤ 9223372036854775807) (R : Nat) (p : Int) (ea : Addr) (w : World) (hR : ReaderAt w R s p)
    (hE : w.cell? ⟨0, 0, none⟩ = some (.iface 157 (.pointer (some ea)))) (hR0 : R ≠ 0) :
    Calls Tryz.prog 75 #[.pointer (some ⟨R, 0, none⟩)] w fun e w' => w.grownBy w' (some R) ∧
      ((∃ v : Int, readsNum s p v ∧ e = .returned (.tuple #[.int .i64 v, .nilIface]) ∧ ReaderAt w' R s (p + (Wire.num v).length)) ∨
       ((∀ v : Int, ¬ readsNum s p v) ∧ e = .returned (.tuple #[.int .i64 0, .iface 157 (.pointer (some ea))]) ∧ ∃ q, ReaderAt w' R s q)) := by
  refine (callsIn_wide (n := 9)).1 ?_
  by_cases h : 0 ≤ p ∧ p ≤ s.size
  · obtain ⟨a0, rfl⟩ := Int.eq_ofNat_of_zero_le h.1
    refine (number_in s hs R a0 (by omega) ea w hR hE hR0).mono ?_
    rintro e w' ⟨hg, (⟨v, h1, h2, h3, h4⟩ | ⟨h1, h2, h3⟩)⟩
    · refine ⟨hg, .inl ⟨v, ⟨h.1, h.2, h1, by simpa using h2⟩, h3, ?_⟩⟩
      rw [← Int.natCast_add]; exact h4
    · exact ⟨hg, .inr ⟨fun v ⟨_, _, a, b⟩ => h1 v a (by simpa using b), h2, h3⟩⟩
  · refine (number_out s R p (by omega) ea w hR hE hR0).mono ?_
    rintro e w' ⟨hg, he, hq⟩
    exact ⟨hg, .inr ⟨fun v ⟨a, b, _, _⟩ => h ⟨a, b⟩, he, hq⟩⟩

theorem below_drewN {B : Nat} {w W : World} (h : Below B w W) (n : Nat) : Below B w (W.drewN n) := ⟨h.os, h.tape, h.output, h.size, h.block⟩

/-- what ReadNum answers -/
def readNumPost (s : ByteArray) (p : Int) (w : World) (e : Ending) (w' : World) : Prop :=
  Below w.heap.size w w' ∧
  ((∃ v : Int, readsNum s p v ∧ e = .returned (.tuple #[.int .i64 v, .int .i64 (p + (Wire.num v).length), .int .i64 0])) ∨
   ((∀ v : Int, ¬ readsNum s p v) ∧ e = .returned (.tuple #[.int .i64 0, .int .i64 0, .int .i64 10])))

set_option maxRecDepth 100000 in
set_option maxHeartbeats 1000000 in
theorem readNum_any (s : ByteArray) (hs : s.size ≤ 9223372036854775807) (p : Int) (ea : Addr) (w : World)
    (hE : w.cell? ⟨0, 0, none⟩ = some (.iface 157 (.pointer (some ea)))) :
    Calls Tryz.prog 53 #[.string s, .int .i64 p] w (readNumPost s p w) := by
  have h0 : 0 < w.heap.size := World.block_lt_of_cell? _ _ hE
  have hn0 : w.heap.size ≠ 0 := by omega
  go_enter Tryz.func53, Tryz.ntmps53
  go_wp2_with fail
  have hb1 : Below w.heap.size w (w.alloc (.cells #[.string s, .int .i64 p] 99)) := (Below.refl _ w).alloc (Nat.le_refl _) _
  have hR : ReaderAt (w.alloc (.cells #[.string s, .int .i64 p] 99)) w.heap.size s p := World.alloc_heap_new w _
  have hE1 : (w.alloc (.cells #[.string s, .int .i64 p] 99)).cell? ⟨0, 0, none⟩ = some (.iface 157 (.pointer (some ea))) := (hb1.cell (p := ⟨0, 0, none⟩) h0).trans hE
  refine (number_any s hs _ p ea _ hR hE1 hn0).mono ?_
  rintro e w1 ⟨hg, hcase⟩
  have hE2 : w1.cell? ⟨0, 0, none⟩ = some (.iface 157 (.pointer (some ea))) := (World.cell?_of_block (hg.block 0 (by simp) (by simpa using hn0.symm))).trans hE1
  have hB : Below w.heap.size w w1 := hb1.grown hg (by simp) (fun k e => by cases e; exact Nat.le_refl _)
  clear hR hE1 hg hb1
  obtain ⟨v, hv, rfl, hr⟩ | ⟨hno, rfl, q, hr⟩ := hcase
  · have r1 := hr.cell1
    go_wp2_with (go_at_call 76; refine (is_nil ea _).mono ?_; rintro e w2 ⟨rfl, rfl⟩)
    go_quiet (fail)
    go_wp2
    go_ret3
    exact ⟨below_drewN hB nq, .inl ⟨v, hv, rfl⟩⟩
  · go_wp2_with (go_at_call 76; refine (is_same ea _).mono ?_; rintro e w2 ⟨rfl, rfl⟩)
    go_ret3
    exact ⟨hB, .inr ⟨hno, rfl⟩⟩
end Go.Proofs.YtmijlcilnaeppaaGreatDoor

/- (*reader).words, ReadText(s, at). -/
set_option linter.unusedSimpArgs false
set_option linter.unusedVariables false
namespace Go.Proofs.YtmijlcilnaeppaaGreatDoor
open Go Go.RowKit Go.Shelf Go.Sort

/-- a text's bytes stand in s from at on -/
def readsText (s : ByteArray) (p : Int) (t : List UInt8) : Prop := 0 ≤ p ∧ p ≤ s.size ∧ t.length ≤ 10000 ∧ (Wire.num t.length ++ t) <+: s.data.toList.drop p.toNat

theorem readsText_num {s : ByteArray} (hs : s.size ≤ 9223372036854775807) {p : Int} {t : List UInt8} (h : readsText s p t) : readsNum s p t.length := by
  obtain ⟨h1, h2, h3, h4⟩ := h
  exact ⟨h1, h2, ⟨by omega, by omega⟩, (List.prefix_append _ _).trans h4⟩

theorem readsText_room {s : ByteArray} {p : Int} {t : List UInt8} (h : readsText s p t) : p + (Wire.num t.length).length + t.length ≤ s.size := by
  obtain ⟨h1, h2, h3, h4⟩ := h
  have := h4.length_le
  simp at this
  have e : s.data.size = s.size := rfl
  omega

theorem readsText_of {s : ByteArray} {p : Int} {n : Nat} (h : readsNum s p n) (hn : n ≤ 10000) (hr : p + (Wire.num n).length + n ≤ s.size) :
    readsText s p ((s.data.toList.drop (p.toNat + (Wire.num n).length)).take n) ∧ ((s.data.toList.drop (p.toNat + (Wire.num n).length)).take n).length = n := by
  obtain ⟨h1, h2, h3, h4⟩ := h
  have hl : ((s.data.toList.drop (p.toNat + (Wire.num n).length)).take n).length = n := by
    have e : s.data.size = s.size := rfl
    simp; omega
  refine ⟨⟨h1, h2, by omega, ?_⟩, hl⟩
  rw [hl]
  obtain ⟨r, hr'⟩ := h4
  rw [← List.drop_drop, ← hr', List.drop_left]
  exact List.prefix_append_right_inj _ |>.2 (List.take_prefix _ _)

theorem extract_take (s : ByteArray) (a b : Nat) : s.extract a b = ⟨((s.data.toList.drop a).take (b - a)).toArray⟩ := by
  have h : (s.extract a b).toList = (s.data.toList.drop a).take (b - a) := by rw [Lib.toList_data, ← Lib.toList_data, Lib.extract_toList]
  rw [Lib.toList_data] at h
  apply ByteArray.ext
  rw [← h]

/-- what words answers -/
def wordsPost (s : ByteArray) (p : Int) (R : Nat) (ea : Addr) (w : World) (e : Ending) (w' : World) : Prop := w.grownBy w' (some R) ∧
      ((∃ t : List UInt8, readsText s p t ∧ e = .returned (.tuple #[.string ⟨t.toArray⟩, .nilIface]) ∧ ReaderAt w' R s (p + (Wire.num t.length).length + t.length)) ∨
       ((∀ t : List UInt8, ¬ readsText s p t) ∧ e = .returned (.tuple #[.string ⟨#[]⟩, .iface 157 (.pointer (some ea))]) ∧ ∃ q, ReaderAt w' R s q))

theorem grown_drewN {w W : World} {r : Option Nat} (h : w.grownBy W r) (n : Nat) : w.grownBy (W.drewN n) r := grown_below h ⟨rfl, rfl, rfl, Nat.le_refl _, fun _ _ => rfl⟩

set_option maxRecDepth 100000 in
set_option maxHeartbeats 2000000 in
theorem words_any (s : ByteArray) (hs : s.size ≤ 9223372036854775807) (R : Nat) (p : Int) (ea : Addr) (w : World) (hR : ReaderAt w R s p)
    (hE : w.cell? ⟨0, 0, none⟩ = some (.iface 157 (.pointer (some ea)))) (hR0 : R ≠ 0) :
    Calls Tryz.prog 77 #[.pointer (some ⟨R, 0, none⟩)] w (wordsPost s p R ea w) := by
  have h0 : 0 < w.heap.size := World.block_lt_of_cell? _ _ hE
  go_enter Tryz.func77, Tryz.ntmps77
  go_wp2_with fail
  refine (number_any s hs R p ea _ hR hE hR0).mono ?_
  rintro e w1 ⟨hg, hcase⟩
  have hE2 : w1.cell? ⟨0, 0, none⟩ = some (.iface 157 (.pointer (some ea))) := (World.cell?_of_block (hg.block 0 h0 (by simpa using hR0.symm))).trans hE
  obtain ⟨v, hv, rfl, hr⟩ | ⟨hno, rfl, q, hr⟩ := hcase
  · have r0 := hr.cell0
    have r1 := hr.cell1
    have rz := hr.frozen 1
    have hp0 : 0 ≤ p := hv.1
    have hps : p + ((Wire.num v).length : Int) ≤ s.size := by
      have := hv.2.2.2.length_le
      have e : s.data.size = s.size := rfl
      have := hv.2.1
      simp at *; omega
    generalize hat : p + ((Wire.num v).length : Int) = p1 at hr r1 hps
    have hp1 : 0 ≤ p1 := by omega
    have HAT := Lib.hid hat; clear hat
    by_cases h1 : v < 0
    · have d1 : decide (v < 0) = true := by simpa using h1
      go_wp2
      go_quiet (fail)
      go_wp2
      go_quiet (fail)
      go_wp2
      go_ret2
      refine ⟨grown_drewN (grown_drewN hg _) _, .inr ⟨fun t ht => ?_, rfl, p1, hr⟩⟩
      have := readsNum_unique hv (readsText_num hs ht)
      omega
    · have d1 : decide (v < 0) = false := by simpa using h1
      by_cases h2 : 10000 < v
      · have d2 : decide (10000 < v) = true := by simpa using h2
        go_wp2
        go_quiet (fail)
        go_wp2
        go_quiet (fail)
        go_wp2
        go_ret2
        refine ⟨grown_drewN (grown_drewN hg _) _, .inr ⟨fun t ht => ?_, rfl, p1, hr⟩⟩
        have := readsNum_unique hv (readsText_num hs ht)
        have := ht.2.2.1
        omega
      · have d2 : decide (10000 < v) = false := by simpa using h2
        have m1 : IntKind.i64.wrap ((s.size : Int) - p1) = (s.size : Int) - p1 := IntWalk.i64_in _ (by omega)
        by_cases h3 : (s.size : Int) - p1 < v
        · have d3 : decide ((s.size : Int) - p1 < v) = true := by simpa using h3
          go_wp2
          go_quiet (fail)
          go_wp2
          go_quiet (fail)
          go_wp2
          go_ret2
          refine ⟨grown_drewN (grown_drewN hg _) _, .inr ⟨fun t ht => ?_, rfl, p1, hr⟩⟩
          have e1 := readsNum_unique hv (readsText_num hs ht)
          have e2 := readsText_room ht
          have e3 := HAT.out
          rw [e1] at e3
          omega
        · have d3 : decide ((s.size : Int) - p1 < v) = false := by simpa using h3
          obtain ⟨n, rfl⟩ := Int.eq_ofNat_of_zero_le (show 0 ≤ v by omega)
          obtain ⟨a1, rfl⟩ := Int.eq_ofNat_of_zero_le hp1
          go_wp2
          go_quiet (fail)
          go_wp2
          have hr2 : ReaderAt ((w1.drewN nq).setCell ⟨R, 1, none⟩ (.int .i64 ((a1 : Int) + n))) R s ((a1 : Int) + n) := ReaderAt.set (show ReaderAt (w1.drewN nq) R s a1 from hr) _
          have hg2 : w.grownBy ((w1.drewN nq).setCell ⟨R, 1, none⟩ (.int .i64 ((a1 : Int) + n))) (some R) := grown_set_row (grown_drewN hg nq) _ rfl _
          generalize (w1.drewN nq).setCell ⟨R, 1, none⟩ (.int .i64 ((a1 : Int) + n)) = W2 at hr2 hg2 ⊢
          clear r0 r1 rz hr hE2
          have r0 := hr2.cell0
          have r1 := hr2.cell1
          have hps2 : (a1 : Int) + n ≤ s.size := by omega
          have m2 : IntKind.i64.wrap (a1 : Int) = (a1 : Int) := IntWalk.i64_in _ (by omega)
          have m3 : ((a1 : Int) + n).toNat = a1 + n := by omega
          have hn1 : a1 ≤ a1 + n := by omega
          have hn2 : a1 + n ≤ s.size := by omega
          go_quiet (fail)
          go_wp2
          go_ret2
          have e3 := HAT.out
          have ea1 : p.toNat + (Wire.num (n : Int)).length = a1 := by omega
          obtain ⟨k1, k2⟩ := readsText_of hv (by omega) (by omega)
          rw [ea1] at k1 k2
          refine ⟨grown_drewN hg2 _, .inl ⟨(s.data.toList.drop a1).take n, k1, ?_, ?_⟩⟩
          · rw [show (⟨((s.data.toList.drop a1).take n).toArray⟩ : ByteArray) = s.extract a1 (a1 + n) from by rw [extract_take, Nat.add_sub_cancel_left]]; rfl
          · rw [k2, e3]
            exact hr2
  · go_wp2
    go_ret2
    refine ⟨hg, .inr ⟨fun t ht => hno _ (readsText_num hs ht), rfl, q, hr⟩⟩

/-- what ReadText answers -/
def readTextPost (s : ByteArray) (p : Int) (w : World) (e : Ending) (w' : World) : Prop :=
  Below w.heap.size w w' ∧
  ((∃ t : List UInt8, readsText s p t ∧ e = .returned (.tuple #[.string ⟨t.toArray⟩, .int .i64 (p + (Wire.num t.length).length + t.length), .int .i64 0])) ∨
   ((∀ t : List UInt8, ¬ readsText s p t) ∧ e = .returned (.tuple #[.string ⟨#[]⟩, .int .i64 0, .int .i64 10])))

set_option maxRecDepth 100000 in
set_option maxHeartbeats 1000000 in
theorem readText_any (s : ByteArray) (hs : s.size ≤ 9223372036854775807) (p : Int) (ea : Addr) (w : World)
    (hE : w.cell? ⟨0, 0, none⟩ = some (.iface 157 (.pointer (some ea)))) :
    Calls Tryz.prog 55 #[.string s, .int .i64 p] w (readTextPost s p w) := by
  have h0 : 0 < w.heap.size := World.block_lt_of_cell? _ _ hE
  have hn0 : w.heap.size ≠ 0 := by omega
  go_enter Tryz.func55, Tryz.ntmps55
  go_wp2_with fail
  have hb1 : Below w.heap.size w (w.alloc (.cells #[.string s, .int .i64 p] 99)) := (Below.refl _ w).alloc (Nat.le_refl _) _
  have hR : ReaderAt (w.alloc (.cells #[.string s, .int .i64 p] 99)) w.heap.size s p := World.alloc_heap_new w _
  have hE1 : (w.alloc (.cells #[.string s, .int .i64 p] 99)).cell? ⟨0, 0, none⟩ = some (.iface 157 (.pointer (some ea))) := (hb1.cell (p := ⟨0, 0, none⟩) h0).trans hE
  refine (words_any s hs _ p ea _ hR hE1 hn0).mono ?_
  rintro e w1 ⟨hg, hcase⟩
  have hE2 : w1.cell? ⟨0, 0, none⟩ = some (.iface 157 (.pointer (some ea))) := (World.cell?_of_block (hg.block 0 (by simp) (by simpa using hn0.symm))).trans hE1
  have hB : Below w.heap.size w w1 := hb1.grown hg (by simp) (fun k e => by cases e; exact Nat.le_refl _)
  clear hR hE1 hg hb1
  obtain ⟨t, hv, rfl, hr⟩ | ⟨hno, rfl, q, hr⟩ := hcase
  · have r1 := hr.cell1
    go_wp2_with (go_at_call 76; refine (is_nil ea _).mono ?_; rintro e w2 ⟨rfl, rfl⟩)
    go_quiet (fail)
    go_wp2
    go_ret3
    exact ⟨below_drewN hB nq, .inl ⟨t, hv, rfl⟩⟩
  · go_wp2_with (go_at_call 76; refine (is_same ea _).mono ?_; rintro e w2 ⟨rfl, rfl⟩)
    go_ret3
    exact ⟨hB, .inr ⟨hno, rfl⟩⟩
end Go.Proofs.YtmijlcilnaeppaaGreatDoor

/- The sum of layer 1 over plain numbers: no program, no model. -/
namespace Wire

def turn (c : Nat) : Nat := if c % 2 = 1 then c / 2 ^^^ 3988292384 else c / 2

theorem turn_lt {c : Nat} (h : c < 4294967296) : turn c < 4294967296 := by
  unfold turn
  split
  · have : c / 2 ^^^ 3988292384 < 2 ^ 32 := Nat.xor_lt_two_pow (by omega) (by decide)
    omega
  · omega

def turns : Nat → Nat → Nat
  | 0, c => c
  | k + 1, c => turn (turns k c)

theorem turns_lt {c : Nat} (h : c < 4294967296) : ∀ k, turns k c < 4294967296
  | 0 => h
  | k + 1 => turn_lt (turns_lt h k)

def byteStep (c : Nat) (b : UInt8) : Nat := turns 8 (c ^^^ b.toNat)

theorem xor_byte_lt {c : Nat} (h : c < 4294967296) (b : UInt8) : c ^^^ b.toNat < 4294967296 := by
  have : c ^^^ b.toNat < 2 ^ 32 := Nat.xor_lt_two_pow (by omega) (by have := b.toNat_lt; omega)
  omega

theorem byteStep_lt {c : Nat} (h : c < 4294967296) (b : UInt8) : byteStep c b < 4294967296 := turns_lt (xor_byte_lt h b) 8

def state (c : Nat) (l : List UInt8) : Nat := l.foldl byteStep c

theorem state_lt {c : Nat} (h : c < 4294967296) : ∀ l, state c l < 4294967296
  | [] => h
  | b :: l => state_lt (byteStep_lt h b) l

theorem state_snoc (c : Nat) (l : List UInt8) (b : UInt8) : state c (l ++ [b]) = byteStep (state c l) b := by
  simp [state]

def crc (l : List UInt8) : Nat := state 4294967295 l ^^^ 4294967295

theorem crc_lt (l : List UInt8) : crc l < 4294967296 := by
  have : crc l < 2 ^ 32 := Nat.xor_lt_two_pow (state_lt (by decide) l) (by decide)
  omega

end Wire

/- Sum(s). -/
set_option linter.unusedSimpArgs false
set_option linter.unusedVariables false
namespace Go.Proofs.YtmijlcilnaeppaaGreatDoor
open Go Go.RowKit Go.Shelf

theorem u32_half_xor (c : Nat) (h : c < 4294967296) : bits .xor .u32 ((c : Int) / 2) 3988292384 = ((c / 2 ^^^ 3988292384 : Nat) : Int) := by
  have := u32_xor_nat (c / 2) 3988292384 (by omega) (by omega)
  rw [← this]; congr 1

theorem xor_u32_byte (c : Nat) (hc : c < 4294967296) (b : UInt8) : bits .xor .u32 (c : Int) (b.toNat : Int) = ((c ^^^ b.toNat : Nat) : Int) :=
  u32_xor_nat c b.toNat hc (by have := b.toNat_lt; omega)

end Go.Proofs.YtmijlcilnaeppaaGreatDoor

/- shown(): what each statement asks first. -/
set_option linter.unusedSimpArgs false
set_option linter.unusedVariables false
namespace Go.Proofs.YtmijlcilnaeppaaGreatDoor
open Go Go.RowKit Go.Shelf Go.Sort

theorem num300 : Wire.num 300 = [216, 4] := by
  simp [Wire.num, Wire.groups_split, Wire.mOf, Wire.sOf, Wire.restGroups_pos, Wire.restGroups_zero, Wire.laidOf]
theorem num0 : Wire.num 0 = [0] := by
  simp [Wire.num, Wire.groups_split, Wire.mOf, Wire.sOf, Wire.restGroups_zero, Wire.laidOf]
theorem numM1 : Wire.num (-1) = [1] := by
  simp [Wire.num, Wire.groups_split, Wire.mOf, Wire.sOf, Wire.restGroups_zero, Wire.laidOf]
theorem num2 : Wire.num 2 = [4] := by
  simp [Wire.num, Wire.groups_split, Wire.mOf, Wire.sOf, Wire.restGroups_zero, Wire.laidOf]
theorem crc9 : Wire.crc [49, 50, 51, 52, 53, 54, 55, 56, 57] = 3421780262 := by decide +kernel

theorem reads300 : readsNum ⟨#[97, 216, 4, 98]⟩ 1 300 := by
  refine ⟨by decide, by decide, ⟨by decide, by decide⟩, ?_⟩
  rw [num300]; exact ⟨[98], rfl⟩
theorem reads80 (v : Int) : ¬ readsNum ⟨#[128]⟩ 0 v := by
  rintro ⟨_, _, h, h'⟩
  exact Wire.num_none (k := 1) (by decide) (.inr (by decide)) v h h'
theorem reads8000 (v : Int) : ¬ readsNum ⟨#[128, 0]⟩ 0 v := by
  rintro ⟨_, _, h, h'⟩
  have h' : Wire.num v <+: [128, 0] := h'
  have := Wire.num_unique (k := 1) (b := 0) rfl (by decide) (by decide) h h'
  have e : Wire.valOf (Wire.dec ([128, 0].take (1 + 1))) = 0 := by decide
  rw [e] at this
  obtain ⟨rfl, hl⟩ := this
  rw [num0] at hl
  cases hl
theorem readsHi : readsText ⟨#[4, 104, 105, 120]⟩ 0 [104, 105] := by
  refine ⟨by decide, by decide, by decide, ?_⟩
  show (Wire.num 2 ++ _) <+: _
  rw [num2]; exact ⟨[120], rfl⟩

theorem infoU8' : (Tryz.prog.info? 5).map (fun i => (i.zero, i.size, i.bytes)) = some (some (.int .u8 0), 1, 1) := by kernel_rfl

/-- the error of wire lies as start-up laid it -/
def errLies (ea : Addr) (w : World) : Prop := w.cell? ⟨0, 0, none⟩ = some (.iface 157 (.pointer (some ea)))
theorem errLies.below {ea : Addr} {w W : World} (h : errLies ea w) (hb : Below w.heap.size w W) : errLies ea W := (hb.cell (p := ⟨0, 0, none⟩) (World.block_lt_of_cell? _ _ h)).trans h

theorem readNum_some {s : ByteArray} (hs : s.size ≤ 9223372036854775807) {p v : Int} (h : readsNum s p v) {ea : Addr} {w : World} (hE : errLies ea w) :
    Calls Tryz.prog 53 #[.string s, .int .i64 p] w fun e w' => e = .returned (.tuple #[.int .i64 v, .int .i64 (p + (Wire.num v).length), .int .i64 0]) ∧ Below w.heap.size w w' :=
  (readNum_any s hs p ea w hE).mono fun e w' ⟨hb, hc⟩ => by
    rcases hc with ⟨v', h', rfl⟩ | ⟨hno, _⟩
    · rw [readsNum_unique h h']; exact ⟨rfl, hb⟩
    · exact (hno v h).elim
theorem readNum_none {s : ByteArray} (hs : s.size ≤ 9223372036854775807) {p : Int} (h : ∀ v, ¬ readsNum s p v) {ea : Addr} {w : World} (hE : errLies ea w) :
    Calls Tryz.prog 53 #[.string s, .int .i64 p] w fun e w' => e = .returned (.tuple #[.int .i64 0, .int .i64 0, .int .i64 10]) ∧ Below w.heap.size w w' :=
  (readNum_any s hs p ea w hE).mono fun e w' ⟨hb, hc⟩ => by
    rcases hc with ⟨v', h', rfl⟩ | ⟨_, rfl⟩
    · exact (h v' h').elim
    · exact ⟨rfl, hb⟩
theorem readsText_unique {s : ByteArray} (hs : s.size ≤ 9223372036854775807) {p : Int} {t t' : List UInt8} (h : readsText s p t) (h' : readsText s p t') : t = t' := by
  have e := readsNum_unique (readsText_num hs h) (readsText_num hs h')
  have e' : t.length = t'.length := by omega
  obtain ⟨_, _, _, h4⟩ := h
  obtain ⟨_, _, _, h4'⟩ := h'
  rw [e'] at h4
  have := (List.prefix_of_prefix_length_le h4 h4' (by simp; omega)).eq_of_length (by simp; omega)
  exact List.append_cancel_left this
theorem readText_some {s : ByteArray} (hs : s.size ≤ 9223372036854775807) {p : Int} {t : List UInt8} (h : readsText s p t) {ea : Addr} {w : World} (hE : errLies ea w) :
    Calls Tryz.prog 55 #[.string s, .int .i64 p] w fun e w' => e = .returned (.tuple #[.string ⟨t.toArray⟩, .int .i64 (p + (Wire.num t.length).length + t.length), .int .i64 0]) ∧ Below w.heap.size w w' :=
  (readText_any s hs p ea w hE).mono fun e w' ⟨hb, hc⟩ => by
    rcases hc with ⟨t', h', rfl⟩ | ⟨hno, _⟩
    · rw [readsText_unique hs h h']; exact ⟨rfl, hb⟩
    · exact (hno t h).elim
theorem readText_none {s : ByteArray} (hs : s.size ≤ 9223372036854775807) {p : Int} (h : ∀ t, ¬ readsText s p t) {ea : Addr} {w : World} (hE : errLies ea w) :
    Calls Tryz.prog 55 #[.string s, .int .i64 p] w fun e w' => e = .returned (.tuple #[.string ⟨#[]⟩, .int .i64 0, .int .i64 10]) ∧ Below w.heap.size w w' :=
  (readText_any s hs p ea w hE).mono fun e w' ⟨hb, hc⟩ => by
    rcases hc with ⟨t', h', rfl⟩ | ⟨_, rfl⟩
    · exact (h t' h').elim
    · exact ⟨rfl, hb⟩

def noughts (n : Nat) : Array Value := madeCells #[.int .u8 0] n
def noughtsText (n : Nat) : ByteArray := ⟨(List.replicate n 0).toArray⟩
theorem noughtsText_size (n : Nat) : (noughtsText n).size = n := by
  show (List.replicate n (0 : UInt8)).toArray.size = n
  simp

/-- ten thousand and one noughts as a text -/
theorem noughts_string (w : World) (n : Nat) : (convert 54 9 (.slice (some ⟨w.heap.size, 0, none⟩) n n)).run Tryz.prog (w.alloc (.cells (noughts n) 5)) =
    .ok (.string (noughtsText n)) (w.alloc (.cells (noughts n) 5)) := by
  unfold noughts noughtsText
  have := run_convert_bytes_back (P := Tryz.prog) (w.alloc (.cells (madeCells #[.int .u8 0] n) 5)) 54 9 5 ⟨w.heap.size, 0, none⟩ n (List.replicate n 0) Tryz.underlying54 Tryz.underlying5 Tryz.underlying9 (fun j hj => by
    have hj' : j < n := by simpa using hj
    rw [show (⟨w.heap.size, 0, none⟩ : Addr).add j = ⟨w.heap.size, j, none⟩ from by unfold Addr.add; split <;> simp_all]
    rw [cell_of_row _ w.heap.size j _ 5 (0, 0) (World.alloc_heap_new w _)]
    simp [madeCells, hj', Nat.mod_one])
  simp only [List.length_replicate] at this
  exact this

theorem noughts_make (w : World) : (Instr.makeSlice 54 (.int .i64 10001) (.int .i64 10001)).run Tryz.prog w = .ok (.slice (some ⟨w.heap.size, 0, none⟩) 10001 10001) (w.alloc (.cells (noughts 10001) 5)) := by
  obtain ⟨i0, hi, hz0, hz1, hz2⟩ := info_parts infoU8'
  have := run_make (P := Tryz.prog) w 54 5 i0 (.int .u8 0) Tryz.underlying54 hi hz0 .i64 .i64 10001 10001 (by decide) (by decide) (by rw [hz2]; decide) (by decide)
  rw [hz1, Nat.mul_one] at this
  exact this

end Go.Proofs.YtmijlcilnaeppaaGreatDoor

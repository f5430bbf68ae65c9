/- A disk as it lies in memory. -/
import Derived.WalkKit
import Derived.Below
import Derived.OwnWalk
import Derived.Deep.AppendLies
import Derived.Deep.MidRow
import Derived.Lib.Hide
import Derived.IntWalk
import Derived.Test.YtnoegbogalfdgaaBytesAt
import Derived.Test.YtnoegbogalfdgaaOwned
set_option linter.unusedSimpArgs false
set_option linter.unusedVariables false
namespace Go.Proofs.Ytnoegbogalfdgaa
open Go Go.RowKit Wire

/-- a disk's state -/
structure DS where
  kept : List (List UInt8)
  pend : List (Nat × List UInt8)
  cut : Bool
  left : Nat
def wcells (p : Nat × List UInt8) : List Value := .int .i64 (p.1 : Int) :: p.2.map u8c
def kcells (l : List (List UInt8)) : List Value := l.flatMap fun s => s.map u8c
def pcells (l : List (Nat × List UInt8)) : List Value := l.flatMap wcells
structure DS.good (d : DS) : Prop where
  k64 : ∀ s ∈ d.kept, s.length = 64
  p64 : ∀ p ∈ d.pend, p.2.length = 64 ∧ p.1 < d.kept.length
  few : d.kept.length ≤ 768
  left : d.left ≤ 9223372036854775807

structure DAt (B : Nat) (W : World) (r kb : Nat) (pv : Value) (d : DS) : Prop where
  box : W.heap[r]? = some (.cells #[.slice (some ⟨kb, 0, none⟩) d.kept.length d.kept.length, pv, .bool d.cut, .int .i64 (d.left : Int)] 56 (0, 0))
  kept : W.heap[kb]? = some (.cells (kcells d.kept).toArray 63 (0, 0))
  pend : W.ownsRow B 65 65 pv d.pend.length (pcells d.pend)
  lor : B ≤ r
  lok : B ≤ kb
  good : d.good

section
variable {B r kb : Nat} {W W' : World} {pv : Value} {d : DS}
theorem DAt.c0 (h : DAt B W r kb pv d) : W.cell? ⟨r, 0, none⟩ = some (.slice (some ⟨kb, 0, none⟩) d.kept.length d.kept.length) := cell_of_row _ _ 0 _ _ (0, 0) h.box
theorem DAt.c1 (h : DAt B W r kb pv d) : W.cell? ⟨r, 1, none⟩ = some pv := cell_of_row _ _ 1 _ _ (0, 0) h.box
theorem DAt.c2 (h : DAt B W r kb pv d) : W.cell? ⟨r, 2, none⟩ = some (.bool d.cut) := cell_of_row _ _ 2 _ _ (0, 0) h.box
theorem DAt.c3 (h : DAt B W r kb pv d) : W.cell? ⟨r, 3, none⟩ = some (.int .i64 (d.left : Int)) := cell_of_row _ _ 3 _ _ (0, 0) h.box
theorem DAt.fz (h : DAt B W r kb pv d) (i : Nat) : W.frozen? ⟨r, i, none⟩ = false := frozen_of_row _ _ i _ _ h.box
theorem DAt.rlt (h : DAt B W r kb pv d) : r < W.heap.size := (Array.getElem?_eq_some_iff.1 h.box).1
theorem DAt.klt (h : DAt B W r kb pv d) : kb < W.heap.size := (Array.getElem?_eq_some_iff.1 h.kept).1
theorem DAt.rk (h : DAt B W r kb pv d) : r ≠ kb := fun e => by
  subst e
  have := h.box.symm.trans h.kept
  have := congrArg (fun o => match o with | some (Obj.cells _ t _) => t | _ => 0) this
  simp at this
theorem DAt.form (h : DAt B W r kb pv d) : ∃ p c, pv = .slice p d.pend.length c ∧ d.pend.length ≤ c := by
  rcases h.pend.2 with ⟨rfl, h0⟩ | ⟨g, cap, cur, rfl, _, _, h1, _⟩
  · exact ⟨none, 0, by rw [h0], by omega⟩
  · exact ⟨_, _, rfl, h1⟩
theorem DAt.pblock (h : DAt B W r kb pv d) {q : Nat} (hq : pv.ownBlock = some q) : ∃ cur, W.heap[q]? = some (.cells cur 65 (0, 0)) := by
  rcases h.pend.2 with ⟨rfl, _⟩ | ⟨g, cap, cur, rfl, _, hg, _⟩
  · cases hq
  · simp [Value.ownBlock] at hq
    subst hq
    exact ⟨cur, hg⟩
theorem DAt.pr (h : DAt B W r kb pv d) : pv.ownBlock ≠ some r := fun e => by
  obtain ⟨cur, hc⟩ := h.pblock e
  have := congrArg (fun o => match o with | some (Obj.cells _ t _) => t | _ => 0) (hc.symm.trans h.box)
  simp at this
theorem DAt.pk (h : DAt B W r kb pv d) : pv.ownBlock ≠ some kb := fun e => by
  obtain ⟨cur, hc⟩ := h.pblock e
  have := congrArg (fun o => match o with | some (Obj.cells _ t _) => t | _ => 0) (hc.symm.trans h.kept)
  simp at this
theorem DAt.plt (h : DAt B W r kb pv d) {q : Nat} (hq : pv.ownBlock = some q) : q < W.heap.size := by
  obtain ⟨cur, hc⟩ := h.pblock hq
  exact (Array.getElem?_eq_some_iff.1 hc).1
/-- what leaves a disk's blocks alone leaves the disk -/
theorem DAt.blocks (h : DAt B W r kb pv d) (h1 : W'.heap[r]? = W.heap[r]?) (h2 : W'.heap[kb]? = W.heap[kb]?) (h3 : ∀ q, pv.ownBlock = some q → W'.heap[q]? = W.heap[q]?) : DAt B W' r kb pv d := by
  refine ⟨h1.trans h.box, h2.trans h.kept, ⟨h.pend.1, ?_⟩, h.lor, h.lok, h.good⟩
  rcases h.pend.2 with h0 | ⟨g, cap, cur, hv, hb, hg, hr⟩
  · exact .inl h0
  · exact .inr ⟨g, cap, cur, hv, hb, (h3 g (by rw [hv]; rfl)).trans hg, hr⟩
theorem DAt.below (h : DAt B W r kb pv d) (hb : Below W.heap.size W W') : DAt B W' r kb pv d :=
  h.blocks (hb.block _ h.rlt) (hb.block _ h.klt) (fun q hq => hb.block _ (h.plt hq))
theorem DAt.alloc (h : DAt B W r kb pv d) (o : Obj) : DAt B (W.alloc o) r kb pv d := h.below ((Below.refl _ _).alloc (Nat.le_refl _) o)
theorem DAt.drew (h : DAt B W r kb pv d) : DAt B W.drew r kb pv d := h.blocks rfl rfl (fun _ _ => rfl)
end

/-- nothing but this disk's blocks, and new ones, has changed -/
structure Only (W W' : World) (r kb : Nat) (pv : Value) : Prop where
  size : W.heap.size ≤ W'.heap.size
  block : ∀ k, k < W.heap.size → k ≠ r → k ≠ kb → pv.ownBlock ≠ some k → W'.heap[k]? = W.heap[k]?
/-- two disks share no block -/
structure Apart (r kb : Nat) (pv : Value) (r' kb' : Nat) (pv' : Value) : Prop where
  r : r ≠ r'
  k : kb ≠ kb'
  p : ∀ q, pv.ownBlock = some q → pv'.ownBlock ≠ some q
theorem Apart.symm {r kb r' kb' : Nat} {pv pv' : Value} (h : Apart r kb pv r' kb' pv') : Apart r' kb' pv' r kb pv := ⟨h.r.symm, h.k.symm, fun q hq hp => h.p q hp hq⟩

/-- what a call on a disk did -/
structure Did (B : Nat) (W W' : World) (r kb : Nat) (pv pv' : Value) (d' : DS) : Prop where
  disk : DAt B W' r kb pv' d'
  below : Below B W W'
  only : Only W W' r kb pv
  fresh : ∀ q, pv'.ownBlock = some q → pv.ownBlock = some q ∨ W.heap.size ≤ q
theorem Did.same {B : Nat} {W W' : World} {r kb : Nat} {pv : Value} {d : DS} (h : DAt B W r kb pv d) (hb : Below W.heap.size W W') (hz : B ≤ W.heap.size) : Did B W W' r kb pv pv d :=
  ⟨h.below hb, hb.mono hz, ⟨hb.size, fun k hk _ _ _ => hb.block k hk⟩, fun _ hq => .inl hq⟩
/-- another disk is as it was, and still shares no block -/
theorem Did.other {B : Nat} {W W' : World} {r kb r2 kb2 : Nat} {pv pv' pv2 : Value} {d d' d2 : DS} (h0 : DAt B W r kb pv d) (h : Did B W W' r kb pv pv' d') (h2 : DAt B W r2 kb2 pv2 d2) (ha : Apart r kb pv r2 kb2 pv2) :
    DAt B W' r2 kb2 pv2 d2 ∧ Apart r kb pv' r2 kb2 pv2 := by
  have ty : ∀ {k : Nat} {c c' : Array Value} {t t' : TypeId}, W.heap[k]? = some (.cells c t (0, 0)) → W.heap[k]? = some (.cells c' t' (0, 0)) → t = t' := fun h h' => by
    have := congrArg (fun o => match o with | some (Obj.cells _ t _) => t | _ => 0) (h.symm.trans h')
    simpa using this
  refine ⟨h2.blocks (h.only.block _ h2.rlt ha.r.symm (fun e => ?_) (fun e => ?_)) (h.only.block _ h2.klt (fun e => ?_) ha.k.symm (fun e => ?_)) (fun q hq => h.only.block _ (h2.plt hq) (fun e => ?_) (fun e => ?_) (fun e => ha.p q e hq)), ha.r, ha.k, fun q hq hq2 => ?_⟩
  · subst e; have := ty h2.box h0.kept; simp at this
  · obtain ⟨cur, hc⟩ := h0.pblock e; have := ty h2.box hc; simp at this
  · subst e; have := ty h2.kept h0.box; simp at this
  · obtain ⟨cur, hc⟩ := h0.pblock e; have := ty h2.kept hc; simp at this
  · subst e; obtain ⟨cur, hc⟩ := h2.pblock hq; have := ty hc h0.box; simp at this
  · subst e; obtain ⟨cur, hc⟩ := h2.pblock hq; have := ty hc h0.kept; simp at this
  · rcases h.fresh q hq with h1 | h1
    · exact ha.p q h1 hq2
    · have := h2.plt hq2; omega
theorem Did.trans {B : Nat} {W W1 W2 : World} {r kb : Nat} {pv pv1 pv2 : Value} {d1 d2 : DS} (h : Did B W W1 r kb pv pv1 d1) (k : Did B W1 W2 r kb pv1 pv2 d2) : Did B W W2 r kb pv pv2 d2 :=
  ⟨k.disk, h.below.trans k.below, ⟨Nat.le_trans h.only.size k.only.size, fun b hb h1 h2 h3 => (k.only.block b (Nat.lt_of_lt_of_le hb h.only.size) h1 h2 (fun e => by
    rcases h.fresh b e with h4 | h4
    · exact h3 h4
    · omega)).trans (h.only.block b hb h1 h2 h3)⟩, fun q hq => by
    rcases k.fresh q hq with h1 | h1
    · exact h.fresh q h1
    · exact .inr (Nat.le_trans h.only.size h1)⟩
end Go.Proofs.Ytnoegbogalfdgaa

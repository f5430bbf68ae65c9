/- Raw calls, opened, with the row that each bears. -/
import Derived.Test.YtepdncpgcpndoaaRowOpensD
set_option linter.unusedSimpArgs false
set_option linter.unusedVariables false
namespace Go.Proofs.Ytepdncpgcpndoaa
open Go Go.ChangeShapes Go.WideShapes Go.ChangeAt Go.RowKit Go.ChangeMaps Wire
section
variable {H : Type} {enc : TypeId × Value → H} {W : World} {base : Nat} {v : Value} {d : DataW H} {p : List MemPlace}
theorem call_of_trod2 {n : Nat} {cs : List Value} {x : DataW H × List MemPlace} (hl : cs.length = 6) (hx : DataW.trod enc Try.prog W 0 (fun _ => true) true n 35 cs = some x) : ∃ c : Cl, cs = c.cells ∧ (c.good ∧ c.keep.oneCell' = true) := by
  obtain ⟨c, rfl, hg⟩ := call_of_trod hl hx
  refine ⟨c, rfl, hg, ?_⟩
  obtain ⟨xs, m, _, rfl, _, hlen, hf⟩ := DataW.trod_struct Try.underlying35 hx
  match xs, hlen with
  | [y0, y1, y2, y3, y4, y5], _ =>
    have q1 : Try.prog.cellsOf 23 = 1 := by kernel_rfl
    have t5 := hf 5 _ rfl
    simp only [List.getElem_toArray, List.getElem_cons_zero, List.getElem_cons_succ, q1, Cl.cells, List.drop, List.take, List.getElem?_cons_zero, List.getElem?_cons_succ] at t5
    rcases DataW.trod_slice Try.underlying23 t5 with ⟨h, _⟩ | ⟨a, len, cap, _, _, _, _, h, _⟩
    · simp only [List.cons.injEq, and_true] at h
      rw [h]; rfl
    · simp only [List.cons.injEq, and_true] at h
      rw [h]; rfl
theorem openCallsE (hv : Value.okWide Try.prog W .any base 22 v) (h : DataW.Trod enc Try.prog W 0 (fun _ => true) true 22 v d p) (hlt : ∀ x ∈ p, x.block < W.heap.size) :
    ∃ (b : Option Addr) (n c : Nat) (xs : List Cl), v = .slice b n c ∧ xs.length = n ∧ n ≤ c ∧ c ≤ maxLen ∧ Lies W (.slice b n c) n 6 (xs.flatMap Cl.cells) ∧ ∀ x ∈ xs, x.good ∧ x.keep.oneCell' = true := by
  obtain ⟨pa, len, cap, rfl⟩ := okWide_slice Try.underlying22 hv
  obtain ⟨b, n, c, xs, h1, h2, h3, h4, h5, h6, _⟩ := open_lies (α := Cl) 6 Cl.cells (fun c => c.good ∧ c.keep.oneCell' = true) Try.underlying22 (by kernel_rfl) (by decide)
    (fun n cs x hl hx => call_of_trod2 hl hx) ⟨_, rfl, rfl⟩ h hlt
  exact ⟨b, n, c, xs, h1, h2, h3, h4, by rw [← h1]; exact h5, h6⟩
end
end Go.Proofs.Ytepdncpgcpndoaa

/- A slice of whole numbers, opened. -/
import Derived.Test.YtnoegbogalfdgaaRowOpens
set_option linter.unusedSimpArgs false
set_option linter.unusedVariables false
namespace Go.Proofs.Ytnoegbogalfdgaa
open Go Go.ChangeShapes Go.WideShapes Go.ChangeAt Go.RowKit Go.ChangeMaps
section
variable {H : Type} {enc : TypeId × Value → H} {W : World} {base : Nat} {v : Value} {d : DataW H} {p : List MemPlace}
theorem openInts (hv : Value.okWide Try.prog W .any base 45 v) (h : DataW.Trod enc Try.prog W 0 (fun _ => true) true 45 v d p) (hlt : ∀ x ∈ p, x.block < W.heap.size) :
    ∃ (b : Option Addr) (n c : Nat) (xs : List Int), v = .slice b n c ∧ xs.length = n ∧ n ≤ c ∧ c ≤ maxLen ∧ Lies W (.slice b n c) n 1 (xs.map (Value.int .i64)) ∧ ∀ x ∈ xs, -9223372036854775808 ≤ x ∧ x ≤ 9223372036854775807 := by
  obtain ⟨pa, len, cap, rfl⟩ := okWide_slice Try.underlying45 hv
  obtain ⟨b, n, c, xs, h1, h2, h3, h4, h5, h6, _⟩ := open_lies (α := Int) 1 (fun s => [.int .i64 s]) (fun x => -9223372036854775808 ≤ x ∧ x ≤ 9223372036854775807) Try.underlying45 (by kernel_rfl) (by decide)
    (fun n cs x _ hx => by obtain ⟨s, rfl, _, hs⟩ := DataW.trod_int Try.underlying3 hx; exact ⟨s, rfl, bounds_i64 hs⟩) ⟨_, rfl, rfl⟩ h hlt
  refine ⟨b, n, c, xs, h1, h2, h3, h4, ?_, h6⟩
  rw [← h1, List.map_eq_flatMap]; exact h5
end
end Go.Proofs.Ytnoegbogalfdgaa

/- A slice of frames, opened. -/
import Derived.Test.YtlnfjddacafpgaaRowOpens
import Derived.Test.YtlnfjddacafpgaaFrameCutsLaw
namespace Go.Proofs.Ytlnfjddacafpgaa
open Go Go.ChangeShapes Go.WideShapes Go.ChangeAt Go.RowKit Go.ChangeMaps

theorem openFrames {H : Type} {enc : TypeId × Value → H} {W : World} {base : Nat} {v : Value} {d : DataW H} {p : List MemPlace} (hv : Value.okWide Try.prog W .any base 35 v) (h : DataW.Trod enc Try.prog W 0 (fun _ => true) true 35 v d p) (hlt : ∀ x ∈ p, x.block < W.heap.size) :
    ∃ (b : Option Addr) (n c : Nat) (xs : List Fr), v = .slice b n c ∧ xs.length = n ∧ n ≤ c ∧ c ≤ maxLen ∧ Lies W (.slice b n c) n 4 (xs.flatMap Fr.cells) ∧ ∀ f ∈ xs, FrGood f := by
  obtain ⟨pa, len, cap, rfl⟩ := okWide_slice Try.underlying35 hv
  obtain ⟨b, n, c, xs, h1, h2, h3, h4, h5, h6, _⟩ := open_lies (α := Fr) 4 Fr.cells FrGood Try.underlying35 (by kernel_rfl) (by decide)
    (fun n cs x hl hx => by
      obtain ⟨e, a, k, s, rfl, h1, h2, h3, h4⟩ := frame_of_trod hl hx
      exact ⟨⟨e, a, k, s⟩, rfl, ⟨h1, h2, h3, h4⟩⟩) ⟨_, rfl, rfl⟩ h hlt
  exact ⟨b, n, c, xs, h1, h2, h3, h4, by rw [← h1]; exact h5, h6⟩
end Go.Proofs.Ytlnfjddacafpgaa

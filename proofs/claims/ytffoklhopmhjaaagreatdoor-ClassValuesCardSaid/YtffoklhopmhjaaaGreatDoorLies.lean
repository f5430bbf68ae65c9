/- A slice that reads as cells. -/
import Derived.WalkKit
import Derived.Below
import Derived.OwnWalk
import Derived.Deep.AppendLies
set_option linter.unusedSimpArgs false
set_option linter.unusedVariables false
namespace Go.Proofs.YtffoklhopmhjaaaGreatDoor
open Go Go.RowKit

/-- a slice that reads as these cells, each element of so many -/
def Lies (W : World) (v : Value) (n size : Nat) (xs : List Value) : Prop :=
  xs.length = n * size ∧ ((n = 0 ∧ ∃ p c, v = .slice p 0 c) ∨ ∃ b off c, v = .slice (some ⟨b, off, none⟩) n c ∧ b < W.heap.size ∧ ∀ j u, xs[j]? = some u → W.cell? ⟨b, off + j, none⟩ = some u)
theorem Lies.below {W W' : World} {v : Value} {n size : Nat} {xs : List Value} (h : Lies W v n size xs) (hb : Below W.heap.size W W') : Lies W' v n size xs := by
  obtain ⟨h1, h2 | ⟨b, off, c, hv, hlt, hc⟩⟩ := h
  · exact ⟨h1, .inl h2⟩
  · exact ⟨h1, .inr ⟨b, off, c, hv, Nat.lt_of_lt_of_le hlt hb.size, fun j u hu => by rw [hb.cell (p := ⟨b, off + j, none⟩) hlt]; exact hc j u hu⟩⟩
theorem Lies.own {W : World} {base : Nat} {e : TypeId} {v : Value} {n size : Nat} {xs : List Value} (h : W.ownsRow base e size v n xs) : Lies W v n size xs := by
  refine ⟨h.1, ?_⟩
  rcases Nat.eq_zero_or_pos n with rfl | hn
  · rcases h.2 with ⟨hv, _⟩ | ⟨g, cap, _, hv, _⟩
    · exact .inl ⟨rfl, none, 0, hv⟩
    · exact .inl ⟨rfl, _, cap, hv⟩
  · obtain ⟨g, cap, rfl, _, hlt⟩ := h.form hn
    exact .inr ⟨g, 0, cap, rfl, hlt, fun j u hu => by have := h.cells (g := g) rfl j u hu; rw [Nat.zero_add]; rwa [show (⟨g, 0, none⟩ : Addr).add j = ⟨g, j, none⟩ from by unfold Addr.add; split <;> simp_all] at this⟩

end Go.Proofs.YtffoklhopmhjaaaGreatDoor

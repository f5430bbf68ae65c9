/- The arguments of this seat's rows, opened. -/
import Derived.Test.YtnoegbogalfdgaaRowBase
set_option linter.unusedSimpArgs false
set_option linter.unusedVariables false
namespace Go.Proofs.Ytnoegbogalfdgaa
open Go Go.ChangeShapes Go.WideShapes Go.ChangeAt Go.RowKit Go.ChangeMaps

theorem laidOut : laidOutB Try.prog = true := by kernel_rfl
section
variable {H : Type} {enc : TypeId × Value → H} {W : World} {base : Nat} {v : Value} {d : DataW H} {p : List MemPlace}

theorem openStrings (hv : Value.okWide Try.prog W .any base 22 v) (h : DataW.Trod enc Try.prog W 0 (fun _ => true) true 22 v d p) (hlt : ∀ x ∈ p, x.block < W.heap.size) :
    ∃ (b : Option Addr) (n c : Nat) (xs : List ByteArray), v = .slice b n c ∧ xs.length = n ∧ n ≤ c ∧ c ≤ maxLen ∧ Lies W (.slice b n c) n 1 (xs.map .string) ∧ ∀ s ∈ xs, s.size ≤ maxLen := by
  obtain ⟨pa, len, cap, rfl⟩ := okWide_slice Try.underlying22 hv
  obtain ⟨b, n, c, xs, h1, h2, h3, h4, h5, h6, _⟩ := open_lies (α := ByteArray) 1 (fun s => [.string s]) (fun s => s.size ≤ maxLen) Try.underlying22 (by kernel_rfl) (by decide)
    (fun n cs x _ hx => by obtain ⟨s, rfl, _, hs⟩ := DataW.trod_string Try.underlying9 hx; exact ⟨s, rfl, hs⟩) ⟨_, rfl, rfl⟩ h hlt
  refine ⟨b, n, c, xs, h1, h2, h3, h4, ?_, h6⟩
  rw [← h1, List.map_eq_flatMap]; exact h5

theorem openU8s (hv : Value.okWide Try.prog W .any base 60 v) (h : DataW.Trod enc Try.prog W 0 (fun _ => true) true 60 v d p) (hlt : ∀ x ∈ p, x.block < W.heap.size) :
    ∃ (b : Option Addr) (n c : Nat) (xs : List Int), v = .slice b n c ∧ xs.length = n ∧ n ≤ c ∧ c ≤ maxLen ∧ Lies W (.slice b n c) n 1 (xs.map (Value.int .u8)) ∧ ∀ x ∈ xs, 0 ≤ x ∧ x ≤ 255 := by
  obtain ⟨pa, len, cap, rfl⟩ := okWide_slice Try.underlying60 hv
  obtain ⟨b, n, c, xs, h1, h2, h3, h4, h5, h6, _⟩ := open_lies (α := Int) 1 (fun s => [.int .u8 s]) (fun x => 0 ≤ x ∧ x ≤ 255) Try.underlying60 (by kernel_rfl) (by decide)
    (fun n cs x _ hx => by obtain ⟨s, rfl, _, hs⟩ := DataW.trod_int Try.underlying5 hx; exact ⟨s, rfl, bounds_u8 hs⟩) ⟨_, rfl, rfl⟩ h hlt
  refine ⟨b, n, c, xs, h1, h2, h3, h4, ?_, h6⟩
  rw [← h1, List.map_eq_flatMap]; exact h5

theorem frame_of_trod {n : Nat} {cs : List Value} {x : DataW H × List MemPlace} (hl : cs.length = 4) (hx : DataW.trod enc Try.prog W 0 (fun _ => true) true n 34 cs = some x) :
    ∃ (e a k : Int) (s : ByteArray), cs = [.int .i64 e, .int .i64 a, .int .i64 k, .string s] ∧ (-9223372036854775808 ≤ e ∧ e ≤ 9223372036854775807) ∧ (-9223372036854775808 ≤ a ∧ a ≤ 9223372036854775807) ∧ (-9223372036854775808 ≤ k ∧ k ≤ 9223372036854775807) ∧ s.size ≤ maxLen := by
  obtain ⟨y0, y1, y2, y3, m, rfl, _, t0, t1, t2, t3⟩ := Joins.trod_struct4 Try.underlying34 hx
  match cs, hl with
  | [c0, c1, c2, c3], _ =>
    obtain ⟨e, h0, _, b0⟩ := DataW.trod_int Try.underlying3 t0
    obtain ⟨a, h1, _, b1⟩ := DataW.trod_int Try.underlying3 t1
    obtain ⟨k, h2, _, b2⟩ := DataW.trod_int Try.underlying3 t2
    obtain ⟨s, h3, _, b3⟩ := DataW.trod_string Try.underlying9 t3
    have q1 : Try.prog.cellsOf 3 = 1 := by kernel_rfl
    have q2 : Try.prog.cellsOf 9 = 1 := by kernel_rfl
    simp only [q1, q2, List.drop, List.take] at h0 h1 h2 h3
    simp only [List.cons.injEq, and_true] at h0 h1 h2 h3
    subst h0 h1 h2 h3
    exact ⟨e, a, k, s, rfl, bounds_i64 b0, bounds_i64 b1, bounds_i64 b2, b3⟩

theorem openFrameArg (hv : Value.okWide Try.prog W .any base 34 v) (h : DataW.Trod enc Try.prog W 0 (fun _ => true) true 34 v d p) :
    ∃ (e a k : Int) (s : ByteArray), v = .agg #[.int .i64 e, .int .i64 a, .int .i64 k, .string s] ∧ (-9223372036854775808 ≤ e ∧ e ≤ 9223372036854775807) ∧ (-9223372036854775808 ≤ a ∧ a ≤ 9223372036854775807) ∧ (-9223372036854775808 ≤ k ∧ k ≤ 9223372036854775807) ∧ s.size ≤ maxLen := by
  obtain ⟨v0, v1, v2, v3, y0, y1, y2, y3, n, rfl, _, _, t0, t1, t2, t3⟩ := Joins.open_agg4 Try.underlying34 (by kernel_rfl) (by kernel_rfl) hv h
  obtain ⟨e, h0, _, b0⟩ := DataW.trod_int Try.underlying3 t0
  obtain ⟨a, h1, _, b1⟩ := DataW.trod_int Try.underlying3 t1
  obtain ⟨k, h2, _, b2⟩ := DataW.trod_int Try.underlying3 t2
  obtain ⟨s, h3, _, b3⟩ := DataW.trod_string Try.underlying9 t3
  simp only [List.cons.injEq, and_true] at h0 h1 h2 h3
  subst h0 h1 h2 h3
  exact ⟨e, a, k, s, rfl, bounds_i64 b0, bounds_i64 b1, bounds_i64 b2, b3⟩
end
end Go.Proofs.Ytnoegbogalfdgaa

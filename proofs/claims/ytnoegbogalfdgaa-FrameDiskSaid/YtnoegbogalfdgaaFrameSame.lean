/- SameTexts, Same: are two lists the same? -/
import Derived.WalkKit
import Derived.Below
import Derived.BigQuiet
import Derived.Lib.Hide
import Derived.Lib.Strings
import Derived.IntWalk
import Derived.OwnWalk
import Derived.Deep.AppendLies
import Derived.Test.YtnoegbogalfdgaaFrameRight
import Derived.Test.YtnoegbogalfdgaaLies
import Derived.Test.YtnoegbogalfdgaaProg
set_option linter.unusedSimpArgs false
set_option linter.unusedVariables false
namespace Go.Proofs.Ytnoegbogalfdgaa
open Go Go.RowKit

theorem below_drewN {B : Nat} {w W : World} (h : Below B w W) (k : Nat) : Below B w (W.drewN k) := ⟨h.os, h.tape, h.output, h.size, h.block⟩

set_option maxHeartbeats 1000000 in
theorem sameTexts_unlike (p q : Option Addr) (n m c d : Nat) (hnm : n ≠ m) (w : World) :
    Calls Try.prog 15 #[.slice p n c, .slice q m d] w fun x w' => x = .returned (.bool false) ∧ w = w' := by
  have d1 : ((n : Int) == (m : Int)) = false := by rw [beq_eq_false_iff_ne]; omega
  go_enter Try.func15, Try.ntmps15
  go_wp2
  go_ret
  exact ⟨rfl, rfl⟩

set_option maxHeartbeats 1000000 in
theorem sameTexts_zero (p q : Option Addr) (c d : Nat) (w : World) :
    Calls Try.prog 15 #[.slice p 0 c, .slice q 0 d] w fun x w' => x = .returned (.bool true) ∧ w = w' := by
  go_enter Try.func15, Try.ntmps15
  go_wp2
  go_loopw [5] (fun i wr => i = .int .i64 0 ∧ w = wr) (fun _ _ => 0)
  case atStart => exact ⟨rfl, rfl⟩
  case round =>
    obtain ⟨rfl, rfl⟩ := hrel
    go_wp2
    go_ret
    exact ⟨rfl, rfl⟩

set_option maxHeartbeats 1000000 in
theorem sameTexts_some (b off b' off' c d : Nat) (ss ts : List ByteArray) (hl : ts.length = ss.length) (hm : ss.length ≤ 9223372036854775807) (w : World) (hb : b < w.heap.size) (hb' : b' < w.heap.size)
    (h1 : ∀ (j : Nat) (h : j < ss.length), w.cell? ⟨b, off + j, none⟩ = some (.string ss[j])) (h2 : ∀ (j : Nat) (h : j < ts.length), w.cell? ⟨b', off' + j, none⟩ = some (.string ts[j])) :
    Calls Try.prog 15 #[.slice (some ⟨b, off, none⟩) ss.length c, .slice (some ⟨b', off', none⟩) ss.length d] w fun x w' => x = .returned (.bool (decide (ss = ts))) ∧ Below w.heap.size w w' := by
  have HL := Lib.hid hl; clear hl
  have H1 := Lib.hid h1; clear h1
  have H2 := Lib.hid h2; clear h2
  have d1 : ((ss.length : Int) == (ss.length : Int)) = true := by simp
  go_enter Try.func15, Try.ntmps15
  go_wp2
  go_loopw [5] (fun i wr => ∃ k : Nat, k ≤ ss.length ∧ i = .int .i64 (k : Int) ∧ ss.take k = ts.take k ∧ Below w.heap.size w wr) (fun i _ => ss.length - (intOf i).toNat)
  case atStart => exact ⟨0, by omega, rfl, rfl, Below.refl _ _⟩
  case round =>
    obtain ⟨k, hk, rfl, he, hB⟩ := hrel
    have HE := Lib.hid he; clear he
    by_cases hlt : k < ss.length
    · have hlt' : k < ts.length := by rw [HL.out]; exact hlt
      have c1 : wr.cell? ⟨b, off + k, none⟩ = some (.string ss[k]) := by rw [hB.cell (p := ⟨b, off + k, none⟩) hb]; exact H1.out k hlt
      have c2 : wr.cell? ⟨b', off' + k, none⟩ = some (.string ts[k]) := by rw [hB.cell (p := ⟨b', off' + k, none⟩) hb']; exact H2.out k hlt'
      have d0 : (0 : Int) ≤ (k : Int) := by omega
      have d3 : (k : Int) < (ss.length : Int) := by omega
      by_cases heq : ss[k] = ts[k]
      · rw [← heq] at c2
        have hts : ss.take (k + 1) = ts.take (k + 1) := by
          rw [List.take_succ_eq_append_getElem hlt, List.take_succ_eq_append_getElem hlt', HE.out, heq]
        have HTS := Lib.hid hts; clear hts
        have HEQ := Lib.hid heq; clear heq
        go_wp2_with fail
        go_quiet (fail)
        go_wp2_with fail
        exact ⟨⟨k + 1, by omega, by go_num, HTS.out, below_drewN hB _⟩, by simp [intOf]; omega⟩
      · have q : (ss[k].toList == ts[k].toList) = false := by
          rw [beq_eq_false_iff_ne, Lib.toList_data, Lib.toList_data]
          intro h
          exact heq (ByteArray.ext (Array.toList_inj.1 h))
        have hd : decide (ss = ts) = false := decide_eq_false (fun h => by subst h; exact heq rfl)
        have HD := Lib.hid hd; clear hd
        have HEQ := Lib.hid heq; clear heq
        go_wp2_with fail
        go_quiet (fail)
        go_wp2_with fail
        go_ret
        exact ⟨by rw [HD.out]; rfl, below_drewN hB _⟩
    · obtain rfl : k = ss.length := by omega
      have hd : decide (ss = ts) = true := by
        have := HE.out
        rw [List.take_of_length_le (Nat.le_refl _), List.take_of_length_le (by rw [HL.out]; exact Nat.le_refl _)] at this
        exact decide_eq_true this
      have HD := Lib.hid hd; clear hd
      go_wp2
      go_ret
      exact ⟨by rw [HD.out]; rfl, hB⟩

theorem sameTexts_any {v v' : Value} {n m : Nat} (ss ts : List ByteArray) (w : World) (hm : ss.length ≤ 9223372036854775807) (h : Lies w v n 1 (ss.map .string)) (h' : Lies w v' m 1 (ts.map .string)) :
    Calls Try.prog 15 #[v, v'] w fun x w' => x = .returned (.bool (decide (ss = ts))) ∧ Below w.heap.size w w' := by
  have hn : ss.length = n := by have := h.1; simpa using this
  have hm' : ts.length = m := by have := h'.1; simpa using this
  by_cases hnm : n = m
  · subst hnm
    rcases h.2 with ⟨h0, p, c, rfl⟩ | ⟨b, off, c, rfl, hb, hc⟩
    · rcases h'.2 with ⟨_, q, d, rfl⟩ | ⟨b', off', d, rfl, _, _⟩
      all_goals
        subst h0
        have e1 : ss = [] := List.eq_nil_of_length_eq_zero hn
        have e2 : ts = [] := List.eq_nil_of_length_eq_zero hm'
        subst e1; subst e2
        refine (sameTexts_zero _ _ _ _ w).mono ?_
        rintro x w' ⟨rfl, rfl⟩
        exact ⟨rfl, Below.refl _ _⟩
    · rcases h'.2 with ⟨h0, q, d, rfl⟩ | ⟨b', off', d, rfl, hb', hc'⟩
      · subst h0
        have e1 : ss = [] := List.eq_nil_of_length_eq_zero hn
        have e2 : ts = [] := List.eq_nil_of_length_eq_zero hm'
        subst e1; subst e2
        refine (sameTexts_zero _ _ _ _ w).mono ?_
        rintro x w' ⟨rfl, rfl⟩
        exact ⟨rfl, Below.refl _ _⟩
      · have := sameTexts_some b off b' off' c d ss ts (hm'.trans hn.symm) hm w hb hb' (fun j hj => hc j _ (by simp [hj])) (fun j hj => hc' j _ (by simp [hj]))
        rw [hn] at this
        exact this
  · have hne : decide (ss = ts) = false := decide_eq_false (fun h => hnm (by rw [← hn, ← hm', h]))
    rw [hne]
    have form : ∀ {v : Value} {n : Nat} {xs : List Value}, Lies w v n 1 xs → ∃ p c, v = .slice p n c := by
      rintro v n xs ⟨_, ⟨rfl, p, c, rfl⟩ | ⟨b, off, c, rfl, _⟩⟩
      · exact ⟨p, c, rfl⟩
      · exact ⟨_, c, rfl⟩
    obtain ⟨p, c, rfl⟩ := form h
    obtain ⟨q, d, rfl⟩ := form h'
    refine (sameTexts_unlike p q n m c d hnm w).mono ?_
    rintro x w' ⟨rfl, rfl⟩
    exact ⟨rfl, Below.refl _ _⟩

/-- a frame, and its cells -/
structure Fr where
  e : Int
  a : Int
  k : Int
  s : ByteArray
def Fr.cells (f : Fr) : List Value := [.int .i64 f.e, .int .i64 f.a, .int .i64 f.k, .string f.s]

set_option maxHeartbeats 2000000 in
/-- two lists of the same frames are the same -/
theorem same_some (b off b' off' c d : Nat) (fs : List Fr) (hm : fs.length ≤ 1000000) (w : World) (hb : b < w.heap.size) (hb' : b' < w.heap.size)
    (h1 : ∀ (j : Nat) (h : j < fs.length) (i : Nat) (u : Value), fs[j].cells[i]? = some u → w.cell? ⟨b, off + (j * 4 + i), none⟩ = some u)
    (h2 : ∀ (j : Nat) (h : j < fs.length) (i : Nat) (u : Value), fs[j].cells[i]? = some u → w.cell? ⟨b', off' + (j * 4 + i), none⟩ = some u) :
    Calls Try.prog 19 #[.slice (some ⟨b, off, none⟩) fs.length c, .slice (some ⟨b', off', none⟩) fs.length d] w fun x w' => x = .returned (.bool true) ∧ Below w.heap.size w w' := by
  have H1 := Lib.hid h1; clear h1
  have H2 := Lib.hid h2; clear h2
  have d1 : ((fs.length : Int) == (fs.length : Int)) = true := by simp
  go_enter Try.func19, Try.ntmps19
  go_wp2
  go_loopw [5] (fun i wr => ∃ k : Nat, k ≤ fs.length ∧ i = .int .i64 (k : Int) ∧ Below w.heap.size w wr) (fun i _ => fs.length - (intOf i).toNat)
  case atStart => exact ⟨0, by omega, rfl, Below.refl _ _⟩
  case round =>
    obtain ⟨k, hk, rfl, hB⟩ := hrel
    by_cases hlt : k < fs.length
    · have c1 : ∀ i u, fs[k].cells[i]? = some u → wr.cell? ⟨b, off + (k * 4 + i), none⟩ = some u := fun i u hu => by rw [hB.cell (p := ⟨b, off + (k * 4 + i), none⟩) hb]; exact H1.out k hlt i u hu
      have c2 : ∀ i u, fs[k].cells[i]? = some u → wr.cell? ⟨b', off' + (k * 4 + i), none⟩ = some u := fun i u hu => by rw [hB.cell (p := ⟨b', off' + (k * 4 + i), none⟩) hb']; exact H2.out k hlt i u hu
      generalize hf : fs[k] = f at c1 c2
      obtain ⟨e, a, kd, s⟩ := f
      have c10 : wr.cell? ⟨b, off + k * 4, none⟩ = some (.int .i64 e) := c1 0 _ rfl
      have c11 : wr.cell? ⟨b, off + k * 4 + 1, none⟩ = some (.int .i64 a) := c1 1 _ rfl
      have c12 : wr.cell? ⟨b, off + k * 4 + 2, none⟩ = some (.int .i64 kd) := c1 2 _ rfl
      have c13 : wr.cell? ⟨b, off + k * 4 + 3, none⟩ = some (.string s) := c1 3 _ rfl
      have c20 : wr.cell? ⟨b', off' + k * 4, none⟩ = some (.int .i64 e) := c2 0 _ rfl
      have c21 : wr.cell? ⟨b', off' + k * 4 + 1, none⟩ = some (.int .i64 a) := c2 1 _ rfl
      have c22 : wr.cell? ⟨b', off' + k * 4 + 2, none⟩ = some (.int .i64 kd) := c2 2 _ rfl
      have c23 : wr.cell? ⟨b', off' + k * 4 + 3, none⟩ = some (.string s) := c2 3 _ rfl
      clear c1 c2 hf
      have d0 : (0 : Int) ≤ (k : Int) := by omega
      have d3 : (k : Int) < (fs.length : Int) := by omega
      go_wp2_with fail
      go_quiet (fail)
      go_wp2_with fail
      exact ⟨⟨k + 1, by omega, by go_num, below_drewN hB _⟩, by simp [intOf]; omega⟩
    · obtain rfl : k = fs.length := by omega
      go_wp2
      go_ret
      exact ⟨rfl, hB⟩
end Go.Proofs.Ytnoegbogalfdgaa

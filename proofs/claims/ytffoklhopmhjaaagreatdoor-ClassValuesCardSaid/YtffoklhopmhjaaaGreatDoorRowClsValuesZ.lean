/- For every input ClassValues returns true and leaves its arguments as they were; the condition: before the call the listed variables read as start-up lays them, which is tied to the program's text. -/
import Derived.Test.YtffoklhopmhjaaaGreatDoorRowClsValuesY1
import Derived.Test.YtffoklhopmhjaaaGreatDoorRowClsValuesY0
import Derived.Lib.Join
import Derived.Lib.ItoaLen
import Derived.Lib.AppendIntMem
import Derived.Test.YtffoklhopmhjaaaGreatDoorClsSame
import Derived.Deep.CutRange
import Derived.Deep.QuietTactic
import Derived.BigQuiet
import Derived.Test.YtffoklhopmhjaaaGreatDoorRows
import Derived.WalkKit
import Derived.ProofKit
import Derived.OpenShut
import Derived.Below
import Derived.Deep.DeepHandedRow
import Derived.LaidLaws
import Derived.Carry
import Derived.ChangeSlices
import Derived.Deep.Slices
import Derived.Lib.SmallJoins
import Derived.Test.YtffoklhopmhjaaaGreatDoorLies
import Derived.Test.YtffoklhopmhjaaaGreatDoorCards
import Derived.Test.YtffoklhopmhjaaaGreatDoorTie
import Derived.Test.YtffoklhopmhjaaaGreatDoorWireShown
import Derived.Test.YtffoklhopmhjaaaGreatDoorWords
import Derived.Deep.DeepWitnessRowRef
import Derived.Lay
import Derived.PinnedBridge
import Derived.Lib.LaidU8T
import Derived.Stop.LaidErr
import Derived.MakeChecks
import Derived.SevenTiedAt
import Derived.Test.YtffoklhopmhjaaaGreatDoorClsRaw
import Derived.Deep.Strs
import Derived.Lib.LaidTab
/- morainelaw04.ValsOf. -/
set_option linter.unusedSimpArgs false
set_option linter.unusedVariables false
namespace Go.Proofs.YtffoklhopmhjaaaGreatDoor
open Go Go.RowKit Go.Shelf

theorem vat_grown {W W' : World} {u : V} {y : It} {r : Option Nat} (h : VAt 1 W u y) (hg : W.grownBy W' r) (hne : ∀ a, y.p = some a → r ≠ some a.block) : VAt 1 W' u y := by
  obtain ⟨h0, h1, h2, h3, ys, h4, h5, h6⟩ := h
  refine ⟨h0, h1, h2, h3, ys, h4, ?_, fun i a b => (FlatAt.of (h6 i a b)).at 0 W'⟩
  obtain ⟨e1, e2 | ⟨b, off, c', hv, hb, hc⟩⟩ := h5
  · exact ⟨e1, .inl e2⟩
  · refine ⟨e1, .inr ⟨b, off, c', hv, Nat.lt_of_lt_of_le hb hg.size, fun j u hu => ?_⟩⟩
    injection hv with k1 _ _
    rw [hg.cell_far ⟨b, off + j, none⟩ hb (fun e => hne _ k1 e.symm)]
    exact hc j u hu
/-- values in a row of one's own, their items elsewhere -/
def VRow (base : Nat) (W : World) (vs : List V) (v : Value) : Prop :=
  ∃ ys : List It, ys.length = vs.length ∧ W.ownsRow base 37 4 v ys.length (itsCells ys) ∧ (∀ (i : Nat) (h : i < ys.length) (h' : i < vs.length), VAt 1 W vs[i] ys[i]) ∧ ∀ y ∈ ys, ∀ a, y.p = some a → v.ownBlock ≠ some a.block ∧ a.block < W.heap.size ∧ base ≤ a.block
theorem VRow.nil (base : Nat) (W : World) : VRow base W [] (.slice none 0 0) := ⟨[], rfl, World.ownsRow_nil _ _ _ _, fun i h => absurd h (by simp), fun y hy => by cases hy⟩
theorem VRow.go {base : Nat} {W W' : World} {vs : List V} {v : Value} (h : VRow base W vs v) (hb : Below W.heap.size W W') : VRow base W' vs v := by
  obtain ⟨ys, h1, h2, h3, h4⟩ := h
  exact ⟨ys, h1, owned_below h2 hb, fun i a b => (h3 i a b).below hb, fun y hy a ha => ⟨(h4 y hy a ha).1, Nat.lt_of_lt_of_le (h4 y hy a ha).2.1 hb.size, (h4 y hy a ha).2.2⟩⟩
theorem VRow.at {base : Nat} {W : World} {vs : List V} {vp : Option Addr} {n c : Nat} (h : VRow base W vs (.slice vp n c)) (hn : n = vs.length) : VsAt 1 W vs vp n c := by
  obtain ⟨ys, h1, h2, h3, h4⟩ := h
  obtain rfl : n = ys.length := by omega
  exact ⟨ys, rfl, h1, Lies.own h2, h3⟩
theorem VRow.cap {base : Nat} {W : World} {vs : List V} {vp : Option Addr} {n c : Nat} (h : VRow base W vs (.slice vp n c)) (hn : n = vs.length) : n ≤ c ∧ c ≤ maxLen := by
  obtain ⟨ys, h1, h2, h3, h4⟩ := h
  rcases h2.2 with ⟨hv, h0⟩ | ⟨g, cap, cur, hv, _, _, hnc, hcm, _⟩
  · injection hv with _ e1 e2
    subst e1 e2
    exact ⟨Nat.le_refl _, Nat.zero_le _⟩
  · injection hv with _ e1 e2
    subst e2
    omega
/-- numbers that lie -/
structure ILies (W : World) (p : Option Addr) (c : Nat) (l : List Int) : Prop where
  lies : Lies W (.slice p l.length c) l.length 1 (l.map (Value.int .i64))
  rng : ∀ x ∈ l, -9223372036854775808 ≤ x ∧ x ≤ 9223372036854775807
theorem ILies.below {W W' : World} {p : Option Addr} {c : Nat} {l : List Int} (h : ILies W p c l) (hb : Below W.heap.size W W') : ILies W' p c l := ⟨h.lies.below hb, h.rng⟩
theorem ILies.cell {W : World} {p : Option Addr} {c : Nat} {l : List Int} (h : ILies W p c l) (k : Nat) (hk : k < l.length) : ∃ b off, p = some ⟨b, off, none⟩ ∧ b < W.heap.size ∧ W.cell? ⟨b, off + k, none⟩ = some (.int .i64 (l.getD k 0)) := by
  obtain ⟨b, off, e, hb, hc⟩ := h.lies.at (by omega)
  refine ⟨b, off, e, hb, hc k _ ?_⟩
  rw [List.getElem?_map, List.getElem?_eq_getElem hk, List.getD_eq_getElem?_getD, List.getElem?_eq_getElem hk]; rfl
theorem numAt_rng (l : List Int) (i : Nat) (hi : i ≤ 9223372036854775807) : -9223372036854775808 ≤ numAt l i ∧ numAt l i ≤ 9223372036854775807 := by
  unfold numAt
  split
  · omega
  · rw [IntKind.wrap_i64]; omega
def valsOf4Post (fs : List Fl) (l : List Int) (many : Int) (w : World) (e : Ending) (w' : World) : Prop :=
  ∃ (p : Option Addr) (c : Nat), e = .returned (.slice p fs.length c) ∧ VsAt 1 w' (vsTo fs l many fs.length) p fs.length c ∧ Below w.heap.size w w'
/-- what ValsOf answers, and how much room there is -/
def valsOf4Cap (fs : List Fl) (l : List Int) (many : Int) (w : World) (e : Ending) (w' : World) : Prop :=
  ∃ (p : Option Addr) (c : Nat) (ys : List It), e = .returned (.slice p fs.length c) ∧ ys.length = fs.length ∧ Lies w' (.slice p fs.length c) fs.length 4 (itsCells ys) ∧ (∀ (i : Nat) (h : i < ys.length) (h' : i < (vsTo fs l many fs.length).length), VAt 1 w' (vsTo fs l many fs.length)[i] ys[i]) ∧ Below w.heap.size w w' ∧ (fs.length ≤ c ∧ c ≤ maxLen) ∧ (∀ a, p = some a → w.heap.size < a.block) ∧ ∀ y ∈ ys, ∀ a, y.p = some a → w.heap.size < a.block

set_option maxHeartbeats 8000000 in
set_option maxRecDepth 100000 in
theorem valsOf4_cap (nm : ByteArray) (q : Option Addr) (c : Nat) (fs : List Fl) (hf : fs.length ≤ 8) (hok : ∀ (i : Nat) (h : i < fs.length), rtB fs[i].k fs[i].o = true) (l : List Int) (lp : Option Addr) (lc : Nat) (hll : l.length ≤ 9223372036854775807) (many : Int) (hm : 1 ≤ many ∧ many ≤ 1000) (w : World) (hF : FLies w q fs.length c fs) (hI : ILies w lp lc l) :
    Calls Tryz.prog 6 #[clV nm q fs.length c, .slice lp l.length lc, .int .i64 many] w (valsOf4Cap fs l many w) := by
  obtain ⟨i0, hi, hz0, hz1, hz2⟩ := info_parts infoVal4
  have hal : Below w.heap.size w (w.alloc (.cells #[.string nm, .slice q fs.length c] 29)) := (Below.refl _ _).alloc (Nat.le_refl _) _
  have hC := CBox.new w nm q fs.length c
  have hof : ∀ (i : Nat) (h : i < fs.length) W, Calls Tryz.prog 24 #[.agg #[.int .i64 fs[i].k, .int .i64 fs[i].o], .int .i64 (numAt l i), .int .i64 many] W (valOf4Post fs[i].k fs[i].o (numAt l i) many W) := fun i h W =>
    valOf4_any _ _ _ _ (hok i h) (numAt_rng l i (by omega)) hm W
  have hsucc := fun i h => vsTo_succ fs l many i h
  have hlen := vsTo_len fs l many
  have HOFV := Lib.hid hof
  have HSUCC := Lib.hid hsucc
  have HLEN := Lib.hid hlen
  have HF := Lib.hid hF
  have HI := Lib.hid hI
  have HAL := Lib.hid hal
  have HC := Lib.hid hC
  clear hof hsucc hlen hF hI hal hC hok hm
  unfold valsOf4Cap
  go_enter Tryz.func6, Tryz.ntmps6
  go_wp2_with fail
  generalize w.alloc (.cells #[.string nm, .slice q fs.length c] 29) = U at HAL HC ⊢
  go_loopw [7, 8] (fun v s wr => ∃ (i : Nat) (vp : Option Addr) (vc : Nat), i ≤ fs.length ∧ s = .int .i64 (i : Int) ∧ v = .slice vp i vc ∧ CBox wr w.heap.size nm q fs.length c ∧ VRow (w.heap.size + 1) wr (vsTo fs l many i) (.slice vp i vc) ∧ Below w.heap.size w wr) (fun v s _ => fs.length - (intOf s).toNat)
  case atStart => exact ⟨0, none, 0, by omega, rfl, rfl, HC.out, VRow.nil _ _, HAL.out⟩
  case round =>
    obtain ⟨i, vp, vc, hil, rfl, rfl, hCr, hrow, hB⟩ := hrel
    clear HAL HC
    obtain ⟨c0, c1⟩ := hCr.facts
    have hzw := hCr.lt
    have HCR := Lib.hid hCr
    have HROW := Lib.hid hrow
    have HB := Lib.hid hB
    clear hCr hrow hB
    by_cases hlt : i < fs.length
    · have d1 : decide ((i : Int) < (fs.length : Int)) = true := decide_eq_true (by omega)
      have d1' : (i : Int) < (fs.length : Int) := by omega
      have d0 : (0 : Int) ≤ (i : Int) := by omega
      obtain ⟨b, off, rfl, hb, hc⟩ := HF.out.2.at (by omega)
      have hcx : ∀ (j : Nat) (u : Value), ((fs[i]'hlt).cells)[j]? = some u → wr.cell? ⟨b, off + i * 4 + j, none⟩ = some u := fun j u hu => by
        rw [HB.out.cell (p := ⟨b, off + i * 4 + j, none⟩) hb, Nat.add_assoc]
        exact hc _ _ (flCells_at fs i hlt j u hu)
      have hcall := HOFV.out i hlt
      unfold valOf4Post at hcall
      have hsucc := HSUCC.out i hlt
      have hnum : numAt l i = if l.length = 0 then (i : Int) else IntKind.i64.wrap (l.getD (i % l.length) 0 + (i : Int)) := rfl
      generalize numAt l i = na at hcall hsucc hnum
      generalize fs[i]'hlt = f at hcx hcall hsucc
      obtain ⟨fn, fk, fo, fx⟩ := f
      simp only at hcall hsucc
      have z1 : wr.cell? ⟨b, off + i * 4 + 1, none⟩ = some (.int .i64 fk) := hcx 1 _ rfl
      have z2 : wr.cell? ⟨b, off + i * 4 + 2, none⟩ = some (.int .i64 fo) := hcx 2 _ rfl
      have HCALL := Lib.hid hcall
      have HSU := Lib.hid hsucc
      clear hcx hc hcall hsucc
      by_cases hl0 : l.length = 0
      · obtain rfl : na = (i : Int) := hnum.trans (if_pos hl0)
        have dl : decide ((l.length : Int) > 0) = false := decide_eq_false (by omega)
        have dl' : ¬ (0 : Int) < (l.length : Int) := by omega
        clear hl0 hnum
        go_wp2_with fail
        refine (HCALL.out _).mono ?_
        rintro e W1 ⟨y, rfl, hat, hBc, hpa⟩
        obtain ⟨yk, yn, ys, yp, ym, yc⟩ := y
        have hB1 := HB.out.trans (hBc.mono HB.out.size)
        have hC1 := HCR.out.below hBc
        have hal1 := (Below.refl W1.heap.size W1).alloc (Nat.le_refl _) (.cells #[.int .i64 yk, .int .i64 yn, .string ys, .slice yp ym yc] 37)
        have howd : ∀ ws : List It, ws.length = (vsTo fs l many i).length → W1.ownsRow (w.heap.size + 1) 37 4 (.slice vp i vc) ws.length (itsCells ws) → (W1.alloc (.cells #[.int .i64 yk, .int .i64 yn, .string ys, .slice yp ym yc] 37)).ownsRow (w.heap.size + 1) 37 4 (.slice vp i vc) ws.length (itsCells ws) := fun ws _ h => h.alloc _
        obtain ⟨ws, k1, k2, k3, k4⟩ := HROW.out.go hBc
        have k5 := howd ws k1 k2
        have k6 : ws.length = i := by rw [k1, HLEN.out]
        rw [k6] at k5
        have hlt1 := hC1.lt
        have hnext : ∀ gg cap w2, w2.ownsRow (w.heap.size + 1) 37 4 (.slice (some ⟨gg, 0, none⟩) (i + 1) cap) (i + 1) (itsCells ws ++ [.int .i64 yk, .int .i64 yn, .string ys, .slice yp ym yc]) → (W1.alloc (.cells #[.int .i64 yk, .int .i64 yn, .string ys, .slice yp ym yc] 37)).grownBy w2 (Value.slice vp i vc).ownBlock → ((Value.slice vp i vc).ownBlock = some gg ∨ gg = W1.heap.size + 1) → CBox w2 w.heap.size nm (some ⟨b, off, none⟩) fs.length c ∧ VRow (w.heap.size + 1) w2 (vsTo fs l many (i + 1)) (.slice (some ⟨gg, 0, none⟩) (i + 1) cap) ∧ Below w.heap.size w w2 := fun gg cap w2 hown hg hgg => by
          have hgo : ∀ g, (Value.slice vp i vc).ownBlock = some g → w.heap.size + 1 ≤ g := fun g hg' => (k5.lt g hg').1
          refine ⟨(hC1.below hal1).grown hg (fun e => by have := hgo _ e.symm; omega), ?_, (hB1.trans (hal1.mono hB1.size)).grown hg (by have := hB1.size; simp; omega) (fun g hg' => by have := hgo g hg'; omega)⟩
          rw [HSU.out]
          have hrow : VRow (w.heap.size + 1) wr (vsTo fs l many i) (.slice vp i vc) := HROW.out
          refine ⟨ws ++ [⟨yk, yn, ys, yp, ym, yc⟩], by simp [k1], by rw [its_app, List.length_append, k6]; exact hown, ?_, ?_⟩
          · intro j a b'
            have hap : ∀ z ∈ ws ++ [(⟨yk, yn, ys, yp, ym, yc⟩ : It)], ∀ a', z.p = some a' → (Value.slice vp i vc).ownBlock ≠ some a'.block := fun z hz a' ha' => by
              rcases List.mem_append.1 hz with hz | hz
              · exact (k4 z hz a' ha').1
              · rw [List.mem_singleton.1 hz] at ha'
                intro e
                have h1 := (hpa a' ha').1
                obtain ⟨zs, m1, m2, _, _⟩ := hrow
                have := (m2.lt _ e).2
                omega
            refine vat_grown (W := W1.alloc (.cells #[.int .i64 yk, .int .i64 yn, .string ys, .slice yp ym yc] 37)) ?_ hg (fun a' ha' => hap _ (List.getElem_mem a) a' ha')
            refine VAt.below ?_ hal1
            rcases Nat.lt_or_ge j ws.length with hl | hl
            · have e1 : (ws ++ [(⟨yk, yn, ys, yp, ym, yc⟩ : It)])[j] = ws[j] := List.getElem_append_left hl
              have e2 : (vsTo fs l many i ++ [vOf fk fo (i : Int) many])[j] = (vsTo fs l many i)[j]'(by omega) := List.getElem_append_left (by omega)
              rw [e1, e2]
              exact k3 j hl (by omega)
            · obtain rfl : j = ws.length := by simp at a; omega
              have e1 : (ws ++ [(⟨yk, yn, ys, yp, ym, yc⟩ : It)])[ws.length] = ⟨yk, yn, ys, yp, ym, yc⟩ := by simp
              have e2 : (vsTo fs l many i ++ [vOf fk fo (i : Int) many])[ws.length] = vOf fk fo (i : Int) many := by simp [k1]
              rw [e1, e2]
              exact hat
          · intro z hz a' ha'
            have hsz := hg.size
            rw [World.size_alloc] at hsz
            have hz2 : (Value.slice vp i vc).ownBlock ≠ some a'.block ∧ a'.block < W1.heap.size ∧ w.heap.size + 1 ≤ a'.block := by
              rcases List.mem_append.1 hz with hz | hz
              · exact k4 z hz a' ha'
              · rw [List.mem_singleton.1 hz] at ha'
                refine ⟨fun e => ?_, (hpa a' ha').2, by have := (hpa a' ha').1; omega⟩
                have h1 := (hpa a' ha').1
                obtain ⟨zs, m1, m2, _, _⟩ := hrow
                have := (m2.lt _ e).2
                omega
            refine ⟨fun e => ?_, by omega, hz2.2.2⟩
            rcases hgg with h | h
            · rw [h] at hz2; exact hz2.1 e
            · have e := Option.some.inj e
              simp only at e
              omega
        have HNEXT := Lib.hid hnext
        have K5 := Lib.hid k5
        have hwz : w.heap.size + 1 ≤ W1.heap.size := hlt1
        have hil8 : i + 1 ≤ 8 := by omega
        have hnone : fs.length - i > 0 := by omega
        clear hat hpa howd k1 k2 k3 k4 k5 hnext hal1 hC1 hB1 hBc HSU HCALL HCR HROW
        go_wp2_with (at_builtin; refine wpList_append_lies _ rfl _ _ _ rfl (w.heap.size + 1) 37 i0 _ 4 56 Tryz.underlying31 hi hz0 hz1 hz2 rfl (by omega) _ i _ rfl K5.out ⟨W1.heap.size, 0, none⟩ 1 1 [.int .i64 yk, .int .i64 yn, .string ys, .slice yp ym yc] rfl rfl (World.news_of_block (cs := #[.int .i64 yk, .int .i64 yn, .string ys, .slice yp ym yc]) (t := 37) (fr := (0, 0)) (World.alloc_heap_new W1 _)) (by simp [Value.oneCell']) (by omega) (by simp [maxLen] <;> omega) (by omega) (by simp <;> omega) (W1.heap.size + 1) (by simp) ?_; intro gg cap w2 hown1 hgrow hatg hlt2)
        exact ⟨⟨i + 1, some ⟨gg, 0, none⟩, cap, by omega, by go_num, rfl, HNEXT.out _ _ _ hown1 hgrow hatg⟩, by simp [intOf]; omega⟩
      · have hna := hnum.trans (if_neg hl0)
        have dl : decide ((l.length : Int) > 0) = true := decide_eq_true (by omega)
        have dl' : (0 : Int) < (l.length : Int) := by omega
        have dz : ((l.length : Int) == 0) = false := by rw [beq_eq_false_iff_ne]; omega
        obtain ⟨r, hr⟩ : ∃ r : Nat, i % l.length = r := ⟨_, rfl⟩
        have hrl : r < l.length := by rw [← hr]; exact Nat.mod_lt _ (by omega)
        have ht : ((i : Int)).tmod (l.length : Int) = (r : Int) := by rw [Int.tmod_eq_emod_of_nonneg (by omega), ← hr]; rfl
        have hwr : IntKind.i64.wrap (r : Int) = (r : Int) := IntWalk.i64_in _ (by omega)
        have r0 : (0 : Int) ≤ (r : Int) := by omega
        have r1 : (r : Int) < (l.length : Int) := by omega
        obtain ⟨lb, loff, rfl, hlb, hlc⟩ := HI.out.cell r hrl
        rw [hr] at hna
        generalize l.getD r 0 = lx at hlc hna
        have hlc2 : wr.cell? ⟨lb, loff + r, none⟩ = some (.int .i64 lx) := (HB.out.cell (p := ⟨lb, loff + r, none⟩) hlb).trans hlc
        have hna2 : IntKind.i64.wrap (lx + (i : Int)) = na := hna.symm
        clear hl0 hnum hlc hna hr
        go_wp2_with fail
        refine (HCALL.out _).mono ?_
        rintro e W1 ⟨y, rfl, hat, hBc, hpa⟩
        obtain ⟨yk, yn, ys, yp, ym, yc⟩ := y
        have hB1 := HB.out.trans (hBc.mono HB.out.size)
        have hC1 := HCR.out.below hBc
        have hal1 := (Below.refl W1.heap.size W1).alloc (Nat.le_refl _) (.cells #[.int .i64 yk, .int .i64 yn, .string ys, .slice yp ym yc] 37)
        have howd : ∀ ws : List It, ws.length = (vsTo fs l many i).length → W1.ownsRow (w.heap.size + 1) 37 4 (.slice vp i vc) ws.length (itsCells ws) → (W1.alloc (.cells #[.int .i64 yk, .int .i64 yn, .string ys, .slice yp ym yc] 37)).ownsRow (w.heap.size + 1) 37 4 (.slice vp i vc) ws.length (itsCells ws) := fun ws _ h => h.alloc _
        obtain ⟨ws, k1, k2, k3, k4⟩ := HROW.out.go hBc
        have k5 := howd ws k1 k2
        have k6 : ws.length = i := by rw [k1, HLEN.out]
        rw [k6] at k5
        have hlt1 := hC1.lt
        have hnext : ∀ gg cap w2, w2.ownsRow (w.heap.size + 1) 37 4 (.slice (some ⟨gg, 0, none⟩) (i + 1) cap) (i + 1) (itsCells ws ++ [.int .i64 yk, .int .i64 yn, .string ys, .slice yp ym yc]) → (W1.alloc (.cells #[.int .i64 yk, .int .i64 yn, .string ys, .slice yp ym yc] 37)).grownBy w2 (Value.slice vp i vc).ownBlock → ((Value.slice vp i vc).ownBlock = some gg ∨ gg = W1.heap.size + 1) → CBox w2 w.heap.size nm (some ⟨b, off, none⟩) fs.length c ∧ VRow (w.heap.size + 1) w2 (vsTo fs l many (i + 1)) (.slice (some ⟨gg, 0, none⟩) (i + 1) cap) ∧ Below w.heap.size w w2 := fun gg cap w2 hown hg hgg => by
          have hgo : ∀ g, (Value.slice vp i vc).ownBlock = some g → w.heap.size + 1 ≤ g := fun g hg' => (k5.lt g hg').1
          refine ⟨(hC1.below hal1).grown hg (fun e => by have := hgo _ e.symm; omega), ?_, (hB1.trans (hal1.mono hB1.size)).grown hg (by have := hB1.size; simp; omega) (fun g hg' => by have := hgo g hg'; omega)⟩
          rw [HSU.out]
          have hrow : VRow (w.heap.size + 1) wr (vsTo fs l many i) (.slice vp i vc) := HROW.out
          refine ⟨ws ++ [⟨yk, yn, ys, yp, ym, yc⟩], by simp [k1], by rw [its_app, List.length_append, k6]; exact hown, ?_, ?_⟩
          · intro j a b'
            have hap : ∀ z ∈ ws ++ [(⟨yk, yn, ys, yp, ym, yc⟩ : It)], ∀ a', z.p = some a' → (Value.slice vp i vc).ownBlock ≠ some a'.block := fun z hz a' ha' => by
              rcases List.mem_append.1 hz with hz | hz
              · exact (k4 z hz a' ha').1
              · rw [List.mem_singleton.1 hz] at ha'
                intro e
                have h1 := (hpa a' ha').1
                obtain ⟨zs, m1, m2, _, _⟩ := hrow
                have := (m2.lt _ e).2
                omega
            refine vat_grown (W := W1.alloc (.cells #[.int .i64 yk, .int .i64 yn, .string ys, .slice yp ym yc] 37)) ?_ hg (fun a' ha' => hap _ (List.getElem_mem a) a' ha')
            refine VAt.below ?_ hal1
            rcases Nat.lt_or_ge j ws.length with hl | hl
            · have e1 : (ws ++ [(⟨yk, yn, ys, yp, ym, yc⟩ : It)])[j] = ws[j] := List.getElem_append_left hl
              have e2 : (vsTo fs l many i ++ [vOf fk fo na many])[j] = (vsTo fs l many i)[j]'(by omega) := List.getElem_append_left (by omega)
              rw [e1, e2]
              exact k3 j hl (by omega)
            · obtain rfl : j = ws.length := by simp at a; omega
              have e1 : (ws ++ [(⟨yk, yn, ys, yp, ym, yc⟩ : It)])[ws.length] = ⟨yk, yn, ys, yp, ym, yc⟩ := by simp
              have e2 : (vsTo fs l many i ++ [vOf fk fo na many])[ws.length] = vOf fk fo na many := by simp [k1]
              rw [e1, e2]
              exact hat
          · intro z hz a' ha'
            have hsz := hg.size
            rw [World.size_alloc] at hsz
            have hz2 : (Value.slice vp i vc).ownBlock ≠ some a'.block ∧ a'.block < W1.heap.size ∧ w.heap.size + 1 ≤ a'.block := by
              rcases List.mem_append.1 hz with hz | hz
              · exact k4 z hz a' ha'
              · rw [List.mem_singleton.1 hz] at ha'
                refine ⟨fun e => ?_, (hpa a' ha').2, by have := (hpa a' ha').1; omega⟩
                have h1 := (hpa a' ha').1
                obtain ⟨zs, m1, m2, _, _⟩ := hrow
                have := (m2.lt _ e).2
                omega
            refine ⟨fun e => ?_, by omega, hz2.2.2⟩
            rcases hgg with h | h
            · rw [h] at hz2; exact hz2.1 e
            · have e := Option.some.inj e
              simp only at e
              omega
        have HNEXT := Lib.hid hnext
        have K5 := Lib.hid k5
        have hwz : w.heap.size + 1 ≤ W1.heap.size := hlt1
        have hil8 : i + 1 ≤ 8 := by omega
        have hnone : fs.length - i > 0 := by omega
        clear hat hpa howd k1 k2 k3 k4 k5 hnext hal1 hC1 hB1 hBc HSU HCALL HCR HROW
        go_wp2_with (at_builtin; refine wpList_append_lies _ rfl _ _ _ rfl (w.heap.size + 1) 37 i0 _ 4 56 Tryz.underlying31 hi hz0 hz1 hz2 rfl (by omega) _ i _ rfl K5.out ⟨W1.heap.size, 0, none⟩ 1 1 [.int .i64 yk, .int .i64 yn, .string ys, .slice yp ym yc] rfl rfl (World.news_of_block (cs := #[.int .i64 yk, .int .i64 yn, .string ys, .slice yp ym yc]) (t := 37) (fr := (0, 0)) (World.alloc_heap_new W1 _)) (by simp [Value.oneCell']) (by omega) (by simp [maxLen] <;> omega) (by omega) (by simp <;> omega) (W1.heap.size + 1) (by simp) ?_; intro gg cap w2 hown1 hgrow hatg hlt2)
        exact ⟨⟨i + 1, some ⟨gg, 0, none⟩, cap, by omega, by go_num, rfl, HNEXT.out _ _ _ hown1 hgrow hatg⟩, by simp [intOf]; omega⟩
    · obtain rfl : i = fs.length := by omega
      have d1 : decide ((fs.length : Int) < (fs.length : Int)) = false := decide_eq_false (by omega)
      go_wp2_with fail
      go_ret
      have hcap := HROW.out.cap (by rw [HLEN.out])
      obtain ⟨ws, k1, k2, k3, k4⟩ := HROW.out
      have k6 : ws.length = fs.length := by rw [k1, HLEN.out]
      have hL : Lies wr (.slice vp fs.length vc) fs.length 4 (itsCells ws) := by
        have := Lies.own k2
        rwa [k6] at this
      exact ⟨vp, vc, ws, rfl, k6, hL, k3, HB.out, hcap, fun a ha => (k2.lt a.block (by rw [ha]; rfl)).1, fun y hy a ha => (k4 y hy a ha).2.2⟩
theorem valsOf4_any (nm : ByteArray) (q : Option Addr) (c : Nat) (fs : List Fl) (hf : fs.length ≤ 8) (hok : ∀ (i : Nat) (h : i < fs.length), rtB fs[i].k fs[i].o = true) (l : List Int) (lp : Option Addr) (lc : Nat) (hll : l.length ≤ 9223372036854775807) (many : Int) (hm : 1 ≤ many ∧ many ≤ 1000) (w : World) (hF : FLies w q fs.length c fs) (hI : ILies w lp lc l) :
    Calls Tryz.prog 6 #[clV nm q fs.length c, .slice lp l.length lc, .int .i64 many] w (valsOf4Post fs l many w) := by
  refine (valsOf4_cap nm q c fs hf hok l lp lc hll many hm w hF hI).mono ?_
  rintro e w' ⟨p, c', ys, h1, h2, h3, h4, h5, _⟩
  exact ⟨p, c', h1, ⟨ys, h2.symm, by rw [h2, vsTo_len], by rw [h2]; exact h3, h4⟩, h5⟩
end Go.Proofs.YtffoklhopmhjaaaGreatDoor

/- words.Quote; val.written of what is no list. -/
set_option linter.unusedSimpArgs false
set_option linter.unusedVariables false
namespace Go.Proofs.YtffoklhopmhjaaaGreatDoor
open Go Go.RowKit Go.Shelf

theorem writeByte_laid (B b : Nat) (l : List UInt8) (c : UInt8) (w : World) (h : Holds B b l w) (hlen : l.length + 1 ≤ 140737488355328) :
    Calls Tryz.prog 84 #[.pointer (some ⟨b, 0, none⟩), .int .u8 (c.toNat : Int)] w fun e w' => e = .returned .nilIface ∧ Laid B b (l ++ [c]) w w' := by
  have hlt := holds_lt h
  refine (writeByte_k B b (Lib.byteCells l) (c.toNat : Int) w h (by rw [Lib.byteCells_length]; exact hlen) (by omega)).mono ?_
  rintro e w' ⟨rfl, h1, h2, h3⟩
  refine ⟨rfl, ?_, h2, h3⟩
  unfold Holds
  rw [Lib.byteCells_append]
  exact Or.inr (by simpa [Lib.byteCells] using h1)
theorem laid_trans {B b : Nat} {l t : List UInt8} {w w1 w2 : World} (h : Laid B b l w w1) (h' : Laid B b t w1 w2) : Laid B b t w w2 := ⟨h'.1, h.2.1.trans h'.2.1, h.2.2.trans h'.2.2⟩
theorem quoted_append (a b : List UInt8) : quoted (a ++ b) = quoted a ++ quoted b := by
  induction a with
  | nil => rfl
  | cons c a ih =>
    show quoted (c :: (a ++ b)) = _
    have e : ∀ r, quoted (c :: r) = if c = 34 ∨ c = 92 then 92 :: c :: quoted r else c :: quoted r := fun r => rfl
    show quoted (c :: (a ++ b)) = quoted (c :: a) ++ quoted b
    rw [e, e, ih]
    split <;> rfl
theorem quoted_len : ∀ t : List UInt8, (quoted t).length ≤ 2 * t.length
  | [] => Nat.le_refl _
  | c :: t => by
    have := quoted_len t
    unfold quoted
    split <;> simp <;> omega
theorem quoted_take (s : ByteArray) (k : Nat) (h : k < s.size) : quoted (s.data.toList.take (k + 1)) = quoted (s.data.toList.take k) ++ quoted [s[k]] := by
  have h' : k < s.data.toList.length := by simpa using h
  rw [List.take_succ_eq_append_getElem h', quoted_append]
  rfl

set_option maxHeartbeats 4000000 in
set_option maxRecDepth 100000 in
theorem quote_any (s : ByteArray) (hs : s.size ≤ 1000000) (w : World) :
    Calls Tryz.prog 62 #[.string s] w fun e w' => e = .returned (.string ⟨(34 :: (quoted s.data.toList ++ [34])).toArray⟩) ∧ Below w.heap.size w w' := by
  have h0 : Holds w.heap.size w.heap.size [] (w.alloc (.cells #[.pointer none, .slice none 0 0] 66)) := Lib.IsBuilderF.of (Lib.fresh_isBuilder _ _ _)
  have hw0 := writeByte_laid w.heap.size w.heap.size [] 34 _ h0 (by simp)
  have hB0 : Below w.heap.size w (w.alloc (.cells #[.pointer none, .slice none 0 0] 66)) := (Below.refl _ _).alloc (Nat.le_refl _) _
  have HB0 := Lib.hid hB0
  clear h0 hB0
  go_enter Tryz.func62, Tryz.ntmps62
  go_wp2_with fail
  refine hw0.mono ?_
  rintro e w1 ⟨rfl, hL⟩
  have HL := Lib.hid hL
  clear hL hw0
  go_wp2_with fail
  go_loopw [8] (fun i wr => ∃ k : Nat, k ≤ s.size ∧ i = .int .i64 (k : Int) ∧ Laid w.heap.size w.heap.size (34 :: quoted (s.data.toList.take k)) w1 wr) (fun i _ => s.size - (intOf i).toNat)
  case atStart => exact ⟨0, by omega, rfl, ⟨HL.out.1, Below.refl _ _, Lib.OthersKept.refl _ _ _⟩⟩
  case round =>
    obtain ⟨k, hk, rfl, hL⟩ := hrel
    have hql := quoted_len (s.data.toList.take k)
    rw [List.length_take] at hql
    by_cases hlt : k < s.size
    · have htk := quoted_take s k hlt
      have hsz : (s.data.toList.length) = s.size := by simp
      by_cases hq : (s[k].toNat : Int) = 34 ∨ (s[k].toNat : Int) = 92
      · have e2 : s[k] = 34 ∨ s[k] = 92 := hq.imp (fun k => UInt8.toNat_inj.1 (by have : (34 : UInt8).toNat = 34 := rfl; omega)) (fun k => UInt8.toNat_inj.1 (by have : (92 : UInt8).toNat = 92 := rfl; omega))
        have htk2 : quoted (s.data.toList.take (k + 1)) = quoted (s.data.toList.take k) ++ [92] ++ [s[k]] := by
          rw [htk]
          show _ ++ (if _ then _ else _) = _
          rw [if_pos e2]; simp [quoted]
        have HTK := Lib.hid htk2
        have hc1 := writeByte_laid w.heap.size w.heap.size _ 92 _ hL.1 (by simp; omega)
        have hc2 : ∀ w2, Laid w.heap.size w.heap.size (34 :: quoted (s.data.toList.take k) ++ [92]) w1 w2 → Calls Tryz.prog 84 #[.pointer (some ⟨w.heap.size, 0, none⟩), .int .u8 (s[k].toNat : Int)] w2 fun e w' => e = .returned .nilIface ∧ Laid w.heap.size w.heap.size (34 :: quoted (s.data.toList.take k) ++ [92] ++ [s[k]]) w2 w' := fun w2 h => writeByte_laid w.heap.size w.heap.size _ _ _ h.1 (by simp; omega)
        have HC2 := Lib.hid hc2
        have HLL := Lib.hid hL
        clear htk htk2 hc2 hL e2
        have hfin : ∀ w2 w3, Laid w.heap.size w.heap.size (34 :: quoted (s.data.toList.take k) ++ [92]) w1 w2 → Laid w.heap.size w.heap.size (34 :: quoted (s.data.toList.take k) ++ [92] ++ [s[k]]) w2 w3 → Laid w.heap.size w.heap.size (34 :: quoted (s.data.toList.take (k + 1))) w1 w3 := fun w2 w3 h h' => by
          have := laid_trans h h'
          rw [HTK.out]
          simpa using this
        have HF := Lib.hid hfin
        clear hfin hql hsz
        by_cases h34 : (s[k].toNat : Int) = 34
        · have d1 : ((s[k].toNat : Int) == 34) = true := by rw [beq_iff_eq]; exact h34
          clear hq h34
          go_wp2_with fail
          refine hc1.mono ?_
          rintro e w2 ⟨rfl, hL2⟩
          have HL2 := Lib.hid (laid_trans HLL.out hL2)
          clear hL2
          go_wp2_with fail
          refine (HC2.out _ HL2.out).mono ?_
          rintro e w3 ⟨rfl, hL3⟩
          have HL3 := Lib.hid hL3
          clear hL3
          go_wp2_with fail
          exact ⟨⟨k + 1, by omega, by go_num, HF.out _ _ HL2.out HL3.out⟩, by simp [intOf]; omega⟩
        · have d1 : ((s[k].toNat : Int) == 34) = false := by rw [beq_eq_false_iff_ne]; exact h34
          have d2 : ((s[k].toNat : Int) == 92) = true := by rw [beq_iff_eq]; exact hq.resolve_left h34
          clear hq h34
          go_wp2_with fail
          refine hc1.mono ?_
          rintro e w2 ⟨rfl, hL2⟩
          have HL2 := Lib.hid (laid_trans HLL.out hL2)
          clear hL2
          go_wp2_with fail
          refine (HC2.out _ HL2.out).mono ?_
          rintro e w3 ⟨rfl, hL3⟩
          have HL3 := Lib.hid hL3
          clear hL3
          go_wp2_with fail
          exact ⟨⟨k + 1, by omega, by go_num, HF.out _ _ HL2.out HL3.out⟩, by simp [intOf]; omega⟩
      · have d1 : ((s[k].toNat : Int) == 34) = false := by rw [beq_eq_false_iff_ne]; exact fun h => hq (.inl h)
        have d2 : ((s[k].toNat : Int) == 92) = false := by rw [beq_eq_false_iff_ne]; exact fun h => hq (.inr h)
        have htk2 : quoted (s.data.toList.take (k + 1)) = quoted (s.data.toList.take k) ++ [s[k]] := by
          rw [htk]
          show _ ++ (if _ then _ else _) = _
          rw [if_neg (by rintro (h | h) <;> rw [h] at hq <;> exact hq (by decide))]; simp [quoted]
        have HTK := Lib.hid htk2
        have hc1 := writeByte_laid w.heap.size w.heap.size _ s[k] _ hL.1 (by simp; omega)
        have HLL := Lib.hid hL
        clear htk htk2 hL hq hql hsz
        go_wp2_with fail
        refine hc1.mono ?_
        rintro e w2 ⟨rfl, hL2⟩
        have hL3 := laid_trans HLL.out hL2
        have hL4 : Laid w.heap.size w.heap.size (34 :: quoted (s.data.toList.take (k + 1))) w1 w2 := by rw [HTK.out]; simpa using hL3
        have HL2 := Lib.hid hL4
        clear hL2 hL3 hL4
        go_wp2_with fail
        exact ⟨⟨k + 1, by omega, by go_num, HL2.out⟩, by simp [intOf]; omega⟩
    · obtain rfl : k = s.size := by omega
      have ht : s.data.toList.take s.size = s.data.toList := List.take_of_length_le (by simp)
      rw [ht] at hL
      have hql2 := quoted_len s.data.toList
      have hsz : (s.data.toList.length) = s.size := by simp
      have hc1 := writeByte_laid w.heap.size w.heap.size _ 34 _ hL.1 (by simp; omega)
      have HLL := Lib.hid hL
      clear ht hL hql hql2 hsz
      go_wp2_with fail
      refine hc1.mono ?_
      rintro e w2 ⟨rfl, hL2⟩
      have hL3 := laid_trans HL.out (laid_trans HLL.out hL2)
      have HL3 := Lib.hid hL3
      have hz : w.heap.size ≤ w2.heap.size := by have := HB0.out.size; have := hL3.2.1.size; omega
      clear hL2 hL3
      go_wp2_with fail
      refine (Tryz.Builder_String_any_k _ _ (34 :: quoted s.data.toList ++ [34]) _ HL3.out.1 hz).mono ?_
      rintro e w4 ⟨rfl, _, hB4, _⟩
      have hfin := (HB0.out.trans HL3.out.2.1).trans hB4
      go_wp2_with fail
      go_ret
      exact ⟨rfl, hfin⟩
end Go.Proofs.YtffoklhopmhjaaaGreatDoor

/- strconv.Itoa; val.written of what is no list; the joined texts of a list. -/
set_option linter.unusedSimpArgs false
set_option linter.unusedVariables false
namespace Go.Proofs.YtffoklhopmhjaaaGreatDoor
open Go Go.RowKit Go.Shelf

/-- the table of strconv's Itoa lies as start-up lays it -/
def Pow (W : World) : Prop := Lib.TabIs Tryz.prog W "internal/strconv.uint64pow10" .u64 Lib.pow10Tab
theorem Pow.below {w w' : World} (h : Pow w) (hb : Below w.heap.size w w') : Pow w' := by
  have hg : Tryz.prog.globalNamed "internal/strconv.uint64pow10" = some 3 := by kernel_rfl
  have hv : ∀ W : World, W.var? Tryz.prog "internal/strconv.uint64pow10" = (W.heap[3]?).bind (fun o => match o with | .cells cs _ _ => some cs | _ => none) := fun W => by
    unfold World.var?
    rw [hg, Option.bind_some]
    cases W.heap[3]? with
    | none => rfl
    | some o => cases o <;> rfl
  have h' : w.var? Tryz.prog "internal/strconv.uint64pow10" = _ := h
  have hlt : 3 < w.heap.size := by
    rcases Nat.lt_or_ge 3 w.heap.size with hl | hl
    · exact hl
    · rw [hv, Array.getElem?_eq_none hl] at h'; cases h'
  show w'.var? Tryz.prog "internal/strconv.uint64pow10" = _
  rw [hv, hb.block 3 hlt, ← hv]
  exact h

theorem itoa_any (n : Int) (h0 : -9223372036854775808 ≤ n) (h1 : n ≤ 9223372036854775807) (w : World) (hP : Pow w) :
    Calls Tryz.prog 61 #[.int .i64 n] w fun e w' => e = .returned (.string ⟨(Lib.itoa n).toArray⟩) ∧ Below w.heap.size w w' :=
  (Tryz.strconv_Itoa n h0 h1 w hP).mono fun e w' ⟨he, k, os, hw⟩ => ⟨he, by rw [hw]; exact Lib.below_grow _ w (Nat.le_refl _) k os⟩

theorem ba_cons (c : UInt8) (l : List UInt8) : (⟨#[c]⟩ : ByteArray) ++ ⟨l.toArray⟩ = ⟨(c :: l).toArray⟩ := by
  apply ByteArray.ext
  rw [ByteArray.data_append]
  simp
theorem join_items (us : List V) : Lib.join (us.map V.textIn) [32] = itemsText us := by
  cases us with
  | nil => rfl
  | cons u us =>
    rw [List.map_cons, Lib.join_cons]
    unfold Lib.joinTail itemsText moreText
    congr 1
    rw [List.map_map, List.flatMap_def]
    rfl

set_option maxHeartbeats 2000000 in
set_option maxRecDepth 100000 in
theorem writtenIn_any (u : V) (hu : u.flatOk = true) (l : Value) (w : World) (hP : Pow w) :
    Calls Tryz.prog 33 #[valV u.k u.n u.s l] w fun e w' => e = .returned (.string ⟨u.textIn.toArray⟩) ∧ Below w.heap.size w w' := by
  obtain ⟨⟨hk0, hk4⟩, hs, _, hn1, hn2⟩ := flatOk_parts hu
  obtain ⟨uk, un, us, ul⟩ := u
  simp only [V.k, V.n, V.s] at hk0 hk4 hs hn1 hn2 ⊢
  have hb : Below w.heap.size w (w.alloc (.cells #[.int .i64 uk, .int .i64 un, .string us, l] 37)) := (Below.refl _ _).alloc (Nat.le_refl _) _
  have hPb := hP.below hb
  have hV := VBox.new w uk un us l
  have hit := fun W (h : Pow W) => itoa_any un (by omega) (by omega) W h
  have hq := fun W => quote_any us (by omega) W
  have hle := Lib.itoa_length_le un (by omega) (by omega)
  have hle' : ¬ 9223372036854775807 < 1 + (Lib.itoa un).length := by omega
  have HIT := Lib.hid hit
  have HQ := Lib.hid hq
  have HB := Lib.hid hb
  have HPB := Lib.hid hPb
  clear hit hq hb hPb hP hu hs hn1 hn2
  have hc : uk = 0 ∨ uk = 1 ∨ uk = 2 ∨ uk = 3 ∨ uk = 4 := by omega
  unfold valV
  rcases hc with rfl | rfl | rfl | rfl | rfl
  · obtain ⟨⟨c0, c1, c2, c3⟩, _⟩ := hV.facts
    go_enter Tryz.func33, Tryz.ntmps33
    go_wp2_with fail
    go_ret
    exact ⟨rfl, HB.out⟩
  · obtain ⟨⟨c0, c1, c2, c3⟩, _⟩ := hV.facts
    go_enter Tryz.func33, Tryz.ntmps33
    go_wp2_with fail
    refine (HIT.out _ HPB.out).mono ?_
    rintro e W1 ⟨rfl, hB⟩
    go_wp2_with fail
    go_ret
    exact ⟨rfl, HB.out.trans (hB.mono HB.out.size)⟩
  · obtain ⟨⟨c0, c1, c2, c3⟩, _⟩ := hV.facts
    go_enter Tryz.func33, Tryz.ntmps33
    go_wp2_with fail
    refine (HQ.out _).mono ?_
    rintro e W1 ⟨rfl, hB⟩
    go_wp2_with fail
    go_ret
    exact ⟨rfl, HB.out.trans (hB.mono HB.out.size)⟩
  · obtain ⟨⟨c0, c1, c2, c3⟩, _⟩ := hV.facts
    go_enter Tryz.func33, Tryz.ntmps33
    go_wp2_with fail
    refine (HIT.out _ HPB.out).mono ?_
    rintro e W1 ⟨rfl, hB⟩
    go_wp2_with fail
    go_ret
    exact ⟨by rw [ba_cons]; rfl, HB.out.trans (hB.mono HB.out.size)⟩
  · obtain ⟨⟨c0, c1, c2, c3⟩, _⟩ := hV.facts
    go_enter Tryz.func33, Tryz.ntmps33
    go_wp2_with fail
    refine (HIT.out _ HPB.out).mono ?_
    rintro e W1 ⟨rfl, hB⟩
    go_wp2_with fail
    go_ret
    exact ⟨by rw [ba_cons]; rfl, HB.out.trans (hB.mono HB.out.size)⟩
end Go.Proofs.YtffoklhopmhjaaaGreatDoor

/- val.written, val.Text. -/
set_option linter.unusedSimpArgs false
set_option linter.unusedVariables false
namespace Go.Proofs.YtffoklhopmhjaaaGreatDoor
open Go Go.RowKit Go.Shelf

theorem infoStr : (Tryz.prog.info? 9).map (fun i => (i.zero, i.size, i.bytes)) = some (some (.string ⟨#[]⟩), 1, 16) := by kernel_rfl
/-- the texts of the first items -/
def strs (us : List V) (i : Nat) : List Value := (us.take i).map (fun u => .string ⟨u.textIn.toArray⟩)
theorem strs_succ (us : List V) (i : Nat) (h : i < us.length) : strs us (i + 1) = strs us i ++ [.string ⟨us[i].textIn.toArray⟩] := by
  unfold strs
  rw [List.take_succ_eq_append_getElem h, List.map_append]; rfl
def texts (us : List V) : List ByteArray := us.map (fun u => ⟨u.textIn.toArray⟩)
theorem texts_join (us : List V) : Lib.join ((texts us).map (·.data.toList)) [32] = itemsText us := by
  rw [← join_items]
  congr 1
  unfold texts
  rw [List.map_map]
  exact List.map_congr_left (fun u _ => by simp)
theorem strs_at (us : List V) (j : Nat) (x : ByteArray) (h : (texts us)[j]? = some x) : (strs us us.length)[j]? = some (.string x) := by
  unfold strs
  unfold texts at h
  rw [List.take_length, List.getElem?_map]
  rw [List.getElem?_map] at h
  cases hu : us[j]? with
  | none => rw [hu] at h; cases h
  | some u => rw [hu] at h; cases h; rfl
theorem textIn_len {u : V} (h : u.flatOk = true) : u.textIn.length ≤ 130 := by
  obtain ⟨_, hs, _, hn1, hn2⟩ := flatOk_parts h
  have hi := Lib.itoa_length_le u.n (by omega) (by omega)
  have hq := quoted_len u.s.data.toList
  have hz : u.s.data.toList.length = u.s.size := by simp
  unfold V.textIn
  split
  · omega
  · split
    · rw [List.length_cons, List.length_append, List.length_singleton]; omega
    · split
      · rw [List.length_cons]; omega
      · split
        · rw [List.length_cons]; omega
        · simp
theorem itemsText_len : ∀ (us : List V), (∀ u ∈ us, u.flatOk = true) → (itemsText us).length ≤ 131 * us.length
  | [], _ => by simp [itemsText]
  | u :: us, h => by
    have h1 := textIn_len (h u List.mem_cons_self)
    have hm : ∀ l : List V, (∀ u ∈ l, u.flatOk = true) → (moreText l).length ≤ 131 * l.length := by
      intro l
      induction l with
      | nil => intro _; simp [moreText]
      | cons a l ih =>
        intro hl
        have h2 := textIn_len (hl a List.mem_cons_self)
        have h3 := ih (fun u hu => hl u (List.mem_cons_of_mem _ hu))
        show (32 :: a.textIn ++ moreText l).length ≤ _
        rw [List.length_append, List.length_cons, List.length_cons]; omega
    have h2 := hm us (fun u hu => h u (List.mem_cons_of_mem _ hu))
    show (u.textIn ++ moreText us).length ≤ _
    rw [List.length_append, List.length_cons]; omega
theorem ba_around (l : List UInt8) : ((⟨#[91]⟩ : ByteArray) ++ ⟨l.toArray⟩) ++ ⟨#[93]⟩ = ⟨(91 :: (l ++ [93])).toArray⟩ := by
  rw [ba_cons]
  apply ByteArray.ext
  rw [ByteArray.data_append]
  simp

set_option maxHeartbeats 2000000 in
set_option maxRecDepth 100000 in
theorem written_list (us : List V) (hl : us.length ≤ 12) (hok : ∀ u ∈ us, u.flatOk = true) (its : List It) (hlen : its.length = us.length) (p : Option Addr) (c : Nat) (w : World) (hlies : Lies w (.slice p its.length c) its.length 4 (itsCells its))
    (hsame : ∀ (i : Nat) (h : i < its.length) (h' : i < us.length), its[i].k = us[i].k ∧ its[i].n = us[i].n ∧ its[i].s = us[i].s) (hP : Pow w) :
    Calls Tryz.prog 33 #[valV 5 0 ⟨#[]⟩ (.slice p its.length c)] w fun e w' => e = .returned (.string ⟨(91 :: (itemsText us ++ [93])).toArray⟩) ∧ Below w.heap.size w w' := by
  obtain ⟨i0, hi, hz0, hz1, hz2⟩ := info_parts infoStr
  have hb : Below w.heap.size w (w.alloc (.cells #[.int .i64 5, .int .i64 0, .string ⟨#[]⟩, .slice p its.length c] 37)) := (Below.refl _ _).alloc (Nat.le_refl _) _
  have hV := VBox.new w 5 0 ⟨#[]⟩ (.slice p its.length c)
  have hone : ∀ (i : Nat) (h : i < us.length) (l : Value) (W : World), Pow W → Calls Tryz.prog 33 #[valV us[i].k us[i].n us[i].s l] W fun e w' => e = .returned (.string ⟨us[i].textIn.toArray⟩) ∧ Below W.heap.size W w' := fun i h l W hW =>
    writtenIn_any us[i] (hok _ (List.getElem_mem h)) l W hW
  have hjoin := texts_join us
  have hilen := itemsText_len us hok
  have hat := strs_at us
  have hsz : ∀ i, i ≤ us.length → (strs us i).length = i := fun i h => by unfold strs; rw [List.length_map, List.length_take]; omega
  have hsucc := strs_succ us
  have htl : (texts us).length = us.length := by unfold texts; rw [List.length_map]
  have HP := Lib.hid hP
  have HONE := Lib.hid hone
  have HJOIN := Lib.hid hjoin
  have HILEN := Lib.hid hilen
  have HAT := Lib.hid hat
  have HSZ := Lib.hid hsz
  have HSUCC := Lib.hid hsucc
  have HTL := Lib.hid htl
  have HLEN := Lib.hid hlen
  have HL := Lib.hid hlies
  have HSAME := Lib.hid hsame
  have HB := Lib.hid hb
  have hnl : its.length ≤ 12 := by omega
  clear hone hjoin hilen hat hsz hsucc htl hlen hlies hsame hb hok hP
  obtain ⟨⟨c0, c1, c2, c3⟩, _⟩ := hV.facts
  clear hV
  unfold valV
  go_enter Tryz.func33, Tryz.ntmps33
  go_wp2_with fail
  generalize hW2 : w.alloc (.cells #[.int .i64 5, .int .i64 0, .string ⟨#[]⟩, .slice p its.length c] 37) = W2 at HB c0 c1 c2 c3 ⊢
  have hz2' : W2.heap.size = w.heap.size + 1 := by rw [← hW2, World.size_alloc]
  clear hW2 c0 c1 c2 c3
  go_loopw [3, 35] (fun s3 s35 wr => ∃ (i : Nat) (vp : Option Addr) (vc : Nat), i ≤ its.length ∧ s35 = .int .i64 (i : Int) ∧ s3 = .slice vp i vc ∧ wr.ownsRow (w.heap.size + 1) 9 1 (.slice vp i vc) i (strs us i) ∧ Below w.heap.size w wr ∧ w.heap.size < wr.heap.size) (fun _ s _ => its.length - (intOf s).toNat)
  case atStart => exact ⟨0, none, 0, by omega, rfl, rfl, World.ownsRow_nil _ _ _ _, HB.out, by omega⟩
  case round =>
    obtain ⟨i, vp, vc, hil, rfl, rfl, hown, hB, hlt0⟩ := hrel
    by_cases hlt : i < its.length
    · have d1 : decide ((i : Int) < (its.length : Int)) = true := decide_eq_true (by omega)
      have d1' : decide (i < its.length) = true := decide_eq_true hlt
      have d0 : (0 : Int) ≤ (i : Int) := by omega
      have d3 : (i : Int) < (its.length : Int) := by omega
      have hiu : i < us.length := by have := HLEN.out; omega
      obtain ⟨b, off, rfl, hb, hc⟩ := HL.out.at (by omega)
      have hcx : ∀ (j : Nat) (u : Value), ((its[i]'hlt).cells)[j]? = some u → wr.cell? ⟨b, off + i * 4 + j, none⟩ = some u := fun j u hu => by
        rw [hB.cell (p := ⟨b, off + i * 4 + j, none⟩) hb, Nat.add_assoc]
        exact hc _ _ (itsCells_at its i hlt j u hu)
      have hs := HSAME.out i hlt hiu
      have hcall := HONE.out i hiu
      have hnext := HSUCC.out i hiu
      generalize us[i]'hiu = u at hs hcall hnext
      generalize its[i]'hlt = z at hcx hs
      obtain ⟨yk, yn, ys, yp, ym, yc⟩ := z
      obtain ⟨e1, e2, e3⟩ := hs
      simp only at e1 e2 e3
      rw [← e1, ← e2, ← e3] at hcall
      have z0 : wr.cell? ⟨b, off + i * 4, none⟩ = some (.int .i64 yk) := hcx 0 _ rfl
      have z1 := hcx 1 _ rfl
      have z2 := hcx 2 _ rfl
      have z3 := hcx 3 _ rfl
      have hnew := VBox.new wr yk yn ys (.slice yp ym yc)
      have hS1 : (wr.alloc (.cells #[.int .i64 yk, .int .i64 yn, .string ys, .slice yp ym yc] 37)).cell? ⟨wr.heap.size, 0, none⟩ = some (.int .i64 yk) ∧ (wr.alloc (.cells #[.int .i64 yk, .int .i64 yn, .string ys, .slice yp ym yc] 37)).cell? ⟨wr.heap.size, 1, none⟩ = some (.int .i64 yn) ∧ (wr.alloc (.cells #[.int .i64 yk, .int .i64 yn, .string ys, .slice yp ym yc] 37)).cell? ⟨wr.heap.size, 2, none⟩ = some (.string ys) ∧ (wr.alloc (.cells #[.int .i64 yk, .int .i64 yn, .string ys, .slice yp ym yc] 37)).cell? ⟨wr.heap.size, 3, none⟩ = some (.slice yp ym yc) := hnew.facts.1
      have hpw : ∀ W, Below (wr.alloc (.cells #[.int .i64 yk, .int .i64 yn, .string ys, .slice yp ym yc] 37)).heap.size (wr.alloc (.cells #[.int .i64 yk, .int .i64 yn, .string ys, .slice yp ym yc] 37)) W → Pow W := fun W h => by
        have h1 : Below w.heap.size w (wr.alloc (.cells #[.int .i64 yk, .int .i64 yn, .string ys, .slice yp ym yc] 37)) := hB.alloc (by omega) _
        have h2 := h1
        exact HP.out.below (h2.trans (h.mono h2.size))
      have hB0 := Below.refl (wr.alloc (.cells #[.int .i64 yk, .int .i64 yn, .string ys, .slice yp ym yc] 37)).heap.size (wr.alloc (.cells #[.int .i64 yk, .int .i64 yn, .string ys, .slice yp ym yc] 37))
      have hwd : ∀ W, Below (wr.alloc (.cells #[.int .i64 yk, .int .i64 yn, .string ys, .slice yp ym yc] 37)).heap.size (wr.alloc (.cells #[.int .i64 yk, .int .i64 yn, .string ys, .slice yp ym yc] 37)) W → Below w.heap.size w W := fun W h => by
        have h1 : Below w.heap.size w (wr.alloc (.cells #[.int .i64 yk, .int .i64 yn, .string ys, .slice yp ym yc] 37)) := hB.alloc (by omega) _
        have h2 := h1
        exact h2.trans (h.mono h2.size)
      have howd : ∀ W1, Below (wr.alloc (.cells #[.int .i64 yk, .int .i64 yn, .string ys, .slice yp ym yc] 37)).heap.size (wr.alloc (.cells #[.int .i64 yk, .int .i64 yn, .string ys, .slice yp ym yc] 37)) W1 → (W1.alloc (.cells #[.string ⟨u.textIn.toArray⟩] 9)).ownsRow (w.heap.size + 1) 9 1 (.slice vp i vc) i (strs us i) := fun W1 h =>
        (owned_below (hown.alloc _) h).alloc _
      have hzd : (wr.alloc (.cells #[.int .i64 yk, .int .i64 yn, .string ys, .slice yp ym yc] 37)).heap.size = wr.heap.size + 1 := by show (wr.alloc (.cells #[.int .i64 yk, .int .i64 yn, .string ys, .slice yp ym yc] 37)).heap.size = _; rw [World.size_alloc]
      have HPW := Lib.hid hpw
      have HWD := Lib.hid hwd
      have HOWD := Lib.hid howd
      have HC := Lib.hid (fun W => hcall (.slice yp ym yc) W)
      have HNEXT := Lib.hid hnext
      have HOWN := Lib.hid hown
      have HHB := Lib.hid hB
      clear hpw hwd howd hcall hnext hcx hc e1 e2 e3 hnew hown hB HB
      go_wp2_with fail
      refine (HC.out _ (HPW.out _ hB0)).mono ?_
      rintro e W1 ⟨rfl, hB1⟩
      have hw1 : w.heap.size + 1 ≤ W1.heap.size + 1 := by have := hB1.size; omega
      go_wp2_with (at_builtin; refine wpList_append_lies _ rfl _ _ _ rfl (w.heap.size + 1) 9 i0 _ 1 16 Tryz.underlying57 hi hz0 hz1 hz2 rfl (by omega) _ i _ rfl (HOWD.out _ hB1) ⟨W1.heap.size, 0, none⟩ 1 1 [.string ⟨u.textIn.toArray⟩] rfl rfl (World.news_of_block (cs := #[.string ⟨u.textIn.toArray⟩]) (t := 9) (fr := (0, 0)) (World.alloc_heap_new W1 _)) (by simp [Value.oneCell']) (by omega) (by simp [maxLen]; omega) (by omega) (by simp; omega) (W1.heap.size + 1) (by simp) ?_; intro gg cap w2 hown1 hgrow hat hlt2)
      have hgo := HOWN.out.lt
      have hBf := ((HWD.out _ hB1).alloc (by omega) (.cells #[.string ⟨u.textIn.toArray⟩] 9)).grown hgrow (by simp; omega) (fun g hg => by have := (hgo g hg).1; omega)
      have hgg := (hown1.lt gg rfl).1
      exact ⟨⟨i + 1, _, cap, by omega, by go_num, rfl, by rw [HNEXT.out]; exact hown1, hBf, by omega⟩, by simp [intOf]; omega⟩
    · have d1 : decide ((i : Int) < (its.length : Int)) = false := decide_eq_false (by omega)
      have d1' : decide (i < its.length) = false := decide_eq_false hlt
      have hiu : i = us.length := by have := HLEN.out; omega
      have hJ : Calls Tryz.prog 63 #[.slice vp i vc, .string ⟨#[32]⟩] wr fun e w' => e = .returned (.string ⟨(itemsText us).toArray⟩) ∧ Below wr.heap.size wr w' := by
        rcases Nat.eq_zero_or_pos i with h0 | h0
        · have hus : us = [] := List.length_eq_zero_iff.1 (by omega)
          rw [hus, h0]
          exact (Tryz.strings_Join_none vp vc ⟨#[32]⟩ wr).mono fun e w' ⟨h1, h2⟩ => ⟨h1, by rw [h2]; exact Below.refl _ _⟩
        · obtain ⟨bk, o, rfl, hbk, hc⟩ := (Lies.own hown).at h0
          have hcap : i ≤ vc := by
            rcases hown.2 with ⟨h, h'⟩ | ⟨g, cap, _, h, _, _, h', _⟩
            · omega
            · injection h with _ _ h3; omega
          have h := Tryz.strings_Join bk o vc (texts us) ⟨#[32]⟩ wr (fun j x hx => hc j _ (by rw [hiu]; exact HAT.out j x hx)) hbk (by rw [HTL.out]; omega) (by rw [HTL.out]; omega) (by have := HILEN.out; have e := HJOIN.out; rw [e]; omega)
          rw [HTL.out, ← hiu] at h
          have e := HJOIN.out
          refine h.mono ?_
          rintro e' w' ⟨rfl, h2⟩
          exact ⟨by rw [e], h2⟩
      have hil2 := HILEN.out
      have hcc1 : ¬ 9223372036854775807 < 1 + (itemsText us).length := by omega
      have hcc2 : ¬ 9223372036854775807 < 1 + (itemsText us).length + 1 := by omega
      have HJ := Lib.hid hJ
      have HHB := Lib.hid hB
      clear hJ hB hown hiu
      go_wp2_with fail
      refine HJ.out.mono ?_
      rintro e W1 ⟨rfl, hB1⟩
      go_wp2_with fail
      go_ret
      exact ⟨by rw [ba_around]; rfl, HHB.out.trans (hB1.mono HHB.out.size)⟩
theorem written_any {d : Nat} (v : V) (hok : v.ok = true) (x : It) (w : World) (hx : VAt d w v x) (hP : Pow w) :
    Calls Tryz.prog 33 #[x.v] w fun e w' => e = .returned (.string ⟨v.text.toArray⟩) ∧ Below w.heap.size w w' := by
  obtain ⟨hfine, hk, hn, hs, ys, hlen, hlies, hin⟩ := hx.top
  have hm := hx.top.len
  obtain ⟨xk, xn, xs, xp, xm, xc⟩ := x
  simp only at hk hn hs hm hlies
  subst hm
  by_cases h5 : v.k = 5
  · obtain ⟨e, hl, hu⟩ := ok_list hok h5
    have h1 : v.n = 0 := by rw [e]; rfl
    have h2 : v.s = ⟨#[]⟩ := by rw [e]; rfl
    have h := written_list v.l hl (fun u h => (okIn_parts (hu u h)).2) ys hlen xp xc w (by rw [hlen] at hlies ⊢; exact hlies) (fun i a b => ⟨(hin i a b).same.1, (hin i a b).same.2.1, (hin i a b).same.2.2.1⟩) hP
    have et : v.text = 91 :: (itemsText v.l ++ [93]) := by unfold V.text; rw [if_pos h5]
    rw [et]
    rw [hlen] at h
    subst hk hn hs
    rw [← h5, ← h1, ← h2] at h
    exact h
  · have et : v.text = v.textIn := by unfold V.text; rw [if_neg h5]
    rw [et]
    subst hk hn hs
    exact writtenIn_any v (ok_flat hok h5) (.slice xp v.l.length xc) w hP

set_option maxHeartbeats 1000000 in
set_option maxRecDepth 100000 in
theorem vtext_any {d : Nat} (v : V) (hok : v.ok = true) (x : It) (w : World) (hx : VAt d w v x) (hP : Pow w) (hT : Tabs w) :
    Calls Tryz.prog 9 #[x.v] w fun e w' => e = .returned (.tuple #[.string ⟨v.text.toArray⟩, .int .i64 0]) ∧ Below w.heap.size w w' := by
  have hr := fun W (h : Below w.heap.size w W) => right_V d v x W (hx.below h) (hT.below h)
  have hw := fun W (h : Below w.heap.size w W) => written_any v hok x W (hx.below h) (hP.below h)
  rw [hok] at hr
  obtain ⟨xk, xn, xs, xp, xm, xc⟩ := x
  have hV := VBox.new w xk xn xs (.slice xp xm xc)
  have hb : Below w.heap.size w (w.alloc (.cells #[.int .i64 xk, .int .i64 xn, .string xs, .slice xp xm xc] 37)) := (Below.refl _ _).alloc (Nat.le_refl _) _
  have HR := Lib.hid hr
  have HW := Lib.hid hw
  have HB := Lib.hid hb
  have HV := Lib.hid hV
  clear hr hw hb hx hT hP hok
  obtain ⟨⟨c0, c1, c2, c3⟩, _⟩ := hV.facts
  go_enter Tryz.func9, Tryz.ntmps9
  go_wp2_with fail
  refine (HR.out _ HB.out).mono ?_
  rintro e W1 ⟨rfl, hB1⟩
  have hB2 := HB.out.trans (hB1.mono HB.out.size)
  have hV1 := HV.out.below hB1
  clear c0 c1 c2 c3 hB1
  obtain ⟨⟨c0, c1, c2, c3⟩, _⟩ := hV1.facts
  go_wp2_with fail
  refine (HW.out _ hB2).mono ?_
  rintro e W2 ⟨rfl, hB3⟩
  go_wp2_with fail
  exact bodyPost_ret (v := .tuple #[.string ⟨v.text.toArray⟩, .int .i64 0]) (by simp [results, Tryz.results9, go_sem]) rfl ⟨rfl, hB2.trans (hB3.mono hB2.size)⟩
set_option maxHeartbeats 1000000 in
set_option maxRecDepth 100000 in
theorem vtext_bad {d : Nat} (v : V) (hok : v.ok = false) (x : It) (w : World) (hx : VAt d w v x) (hT : Tabs w) :
    Calls Tryz.prog 9 #[x.v] w fun e w' => e = .returned (.tuple #[.string ⟨#[]⟩, .int .i64 30]) ∧ Below w.heap.size w w' := by
  have hr := fun W (h : Below w.heap.size w W) => right_V d v x W (hx.below h) (hT.below h)
  rw [hok] at hr
  obtain ⟨xk, xn, xs, xp, xm, xc⟩ := x
  have hV := VBox.new w xk xn xs (.slice xp xm xc)
  have hb : Below w.heap.size w (w.alloc (.cells #[.int .i64 xk, .int .i64 xn, .string xs, .slice xp xm xc] 37)) := (Below.refl _ _).alloc (Nat.le_refl _) _
  have HR := Lib.hid hr
  have HB := Lib.hid hb
  clear hr hb hx hT hok
  obtain ⟨⟨c0, c1, c2, c3⟩, _⟩ := hV.facts
  go_enter Tryz.func9, Tryz.ntmps9
  go_wp2_with fail
  refine (HR.out _ HB.out).mono ?_
  rintro e W1 ⟨rfl, hB1⟩
  go_wp2_with fail
  exact bodyPost_ret (v := .tuple #[.string ⟨#[]⟩, .int .i64 30]) (by simp [results, Tryz.results9, go_sem]) rfl ⟨rfl, HB.out.trans (hB1.mono HB.out.size)⟩
end Go.Proofs.YtffoklhopmhjaaaGreatDoor

/- The walk of ClassBack. -/
set_option linter.unusedSimpArgs false
set_option linter.unusedVariables false
namespace Go.Proofs.YtffoklhopmhjaaaGreatDoor
open Go Go.RowKit Go.Shelf

theorem cl_wide {c : Cl} (h : c.ok = true) : c.nm.size ≤ 9223372036854775807 ∧ (∀ f ∈ c.fs, f.fine) ∧ c.fs.length ≤ 8 ∧ 1 ≤ c.bytes.length ∧ c.bytes.length ≤ 2000 := by
  obtain ⟨⟨h0, h1⟩, h2, h3⟩ := Cl.ok_parts h
  refine ⟨by omega, fun f hf => ?_, h2, ?_, ?_⟩
  · obtain ⟨i, hi, rfl⟩ := List.getElem_of_mem hf
    obtain ⟨a1, a2, _, _, a3, a4⟩ := Fl.ok_parts (h3 i hi).1
    exact ⟨by omega, ⟨by omega, by omega⟩, ⟨by omega, by omega⟩⟩
  · unfold Cl.bytes txtB
    have := nm_size c.nm
    simp only [List.length_append]
    omega
  · have := clsTo_len (cn := c.nm) (fs := c.fs) h c.fs.length
    rw [clsTo_end] at this
    exact this
theorem min_cut100 (s : ByteArray) : ∃ m : Nat, m ≤ s.size ∧ m ≤ 100 ∧ (if (100 : Int) < (s.size : Int) then (100 : Int) else (s.size : Int)) = (m : Int) ∧ min (s.size : Int) 100 = (m : Int) := by
  by_cases h : 100 < s.size
  · exact ⟨100, by omega, by omega, by rw [if_pos (by omega)]; rfl, by omega⟩
  · exact ⟨s.size, by omega, by omega, by rw [if_neg (by omega)], by omega⟩
open Classical in
theorem sameC_iff (a b : Cl) : sameC a b = true ↔ a = b := by
  unfold sameC
  exact decide_eq_true_iff
/-- what is carried along -/
structure OkB (ea : Addr) (w W : World) : Prop where
  t : Tabs W
  e : errLies ea W
  b : Below w.heap.size w W
theorem OkB.below {ea : Addr} {w W W' : World} (h : OkB ea w W) (hb : Below W.heap.size W W') : OkB ea w W' := ⟨h.t.below hb, h.e.below hb, h.b.trans (hb.mono h.b.size)⟩
/-- a raw class in block b -/
structure CRBox (W : World) (b : Nat) (x : CRaw) (p : Option Addr) (c : Nat) : Prop where
  box : W.heap[b]? = some (.cells #[.int .i64 x.n, .slice p x.l.length c] 24 (0, 0))
  lies : Lies W (.slice p x.l.length c) x.l.length 4 (frawCells x.l)
theorem CRBox.below {W W' : World} {b : Nat} {x : CRaw} {p : Option Addr} {c : Nat} (h : CRBox W b x p c) (hb : Below W.heap.size W W') : CRBox W' b x p c :=
  ⟨(hb.block b (Array.getElem?_eq_some_iff.1 h.box).1).trans h.box, h.lies.below hb⟩
theorem CRBox.facts {W : World} {b : Nat} {x : CRaw} {p : Option Addr} {c : Nat} (h : CRBox W b x p c) : W.cell? ⟨b, 0, none⟩ = some (.int .i64 x.n) ∧ W.cell? ⟨b, 1, none⟩ = some (.slice p x.l.length c) := by
  constructor <;> (rw [Lib.cell_of_heap h.box]; rfl)
/-- a class in block b, with its fields -/
structure ClBox (W : World) (b : Nat) (a : Cl) (q : Option Addr) (c : Nat) : Prop where
  box : CBox W b a.nm q a.fs.length c
  lies : FLies W q a.fs.length c a.fs
theorem ClBox.below {W W' : World} {b : Nat} {a : Cl} {q : Option Addr} {c : Nat} (h : ClBox W b a q c) (hb : Below W.heap.size W W') : ClBox W' b a q c := ⟨h.box.below hb, h.lies.below hb⟩

end Go.Proofs.YtffoklhopmhjaaaGreatDoor

/- The walk of ClassOnce. -/
set_option linter.unusedSimpArgs false
set_option linter.unusedVariables false
namespace Go.Proofs.YtffoklhopmhjaaaGreatDoor
open Go Go.RowKit Go.Shelf

theorem below_none {W W' : World} (h : W.grownBy W' none) : Below W.heap.size W W' := ⟨h.os, h.tape, h.output, h.size, fun k hk => h.block k hk (by simp)⟩
/-- a class with fields of its own, made since a world -/
structure Cp (B : Nat) (W : World) (b : Nat) (nm : ByteArray) (g n c : Nat) (fs : List Fl) (V : World) : Prop where
  box : CBox V b nm (some ⟨g, 0, none⟩) n c
  own : FOwn B V g n c fs
  lo : B ≤ b
  ne : b ≠ g
  below : Below B W V
section
variable {B : Nat} {W V V' : World} {b : Nat} {nm : ByteArray} {g n c : Nat} {fs : List Fl}
theorem Cp.go (h : Cp B W b nm g n c fs V) (hb : Below V.heap.size V V') : Cp B W b nm g n c fs V' := ⟨h.box.below hb, h.own.below hb, h.lo, h.ne, h.below.trans (hb.mono (Nat.le_of_lt (Nat.lt_of_le_of_lt h.lo h.box.lt)))⟩
theorem Cp.lies (h : Cp B W b nm g n c fs V) : FLies V (some ⟨g, 0, none⟩) n c fs := h.own.lies
theorem Cp.set (h : Cp B W b nm g n c fs V) (k : Nat) (hk : k < fs.length) (j : Nat) (hj : j < 4) (u : Value) (f : Fl) (hf : f.cells = (fs[k].cells).set j u) : Cp B W b nm g n c (fs.set k f) (V.setCell ⟨g, k * 4 + j, none⟩ u) :=
  ⟨(Below.heap_setCell V ⟨g, k * 4 + j, none⟩ u b h.ne).trans h.box, h.own.set k hk j hj u f hf, h.lo, h.ne, h.below.setCell (p := ⟨g, k * 4 + j, none⟩) h.own.lt.1 u⟩
/-- a copy's fields are its own -/
theorem Cp.ofCopy {W U : World} {nm : ByteArray} {q : Option Addr} {n c g c' : Nat} {fs : List Fl} (hn : n = fs.length) (hU : U = W.alloc (.cells #[.string nm, .slice q n c] 29)) {U' : World} (ho : U'.ownsRow U.heap.size 48 4 (.slice (some ⟨g, 0, none⟩) n c') n (flCells fs)) (hg : U.grownBy U' none) :
    Cp W.heap.size W W.heap.size nm g n c' fs (U'.setCell ⟨W.heap.size, 1, none⟩ (.slice (some ⟨g, 0, none⟩) n c')) := by
  subst hU
  have hz : (W.alloc (.cells #[.string nm, .slice q n c] 29)).heap.size = W.heap.size + 1 := World.size_alloc _ _
  rw [hz] at ho
  have hgl := ho.lt g rfl
  have hb := below_none hg
  have hbx := (CBox.new W nm q n c).below hb
  refine ⟨?_, ⟨hn, ?_⟩, Nat.le_refl _, by omega, ?_⟩
  · exact hbx.set1 _ _ _
  · exact owned_base (ownsRow_setCell_other ho (a := ⟨W.heap.size, 1, none⟩) (fun e => by have := Option.some.inj e; simp at this; omega) _) (by omega)
  · exact ((((Below.refl _ _).alloc (Nat.le_refl _) _).trans (hb.mono (by rw [hz]; omega)))).setCell (p := ⟨W.heap.size, 1, none⟩) (Nat.le_refl _) _
/-- a field more -/
theorem Cp.ofMore {W U : World} {nm : ByteArray} {q : Option Addr} {n c g c' g0 : Nat} {fs : List Fl} (f : Fl) (hn : n = fs.length) (hU : U = W.alloc (.cells #[.string nm, .slice q n c] 29)) {U2 U3 : World}
    (hb : Below U.heap.size U U2) (hg0 : U.heap.size ≤ g0) (hg : U2.grownBy U3 (some g0)) (ho : U3.ownsRow U.heap.size 48 4 (.slice (some ⟨g, 0, none⟩) (n + 1) c') (n + 1) (flCells fs ++ f.cells)) :
    Cp W.heap.size W W.heap.size nm g (n + 1) c' (fs ++ [f]) (U3.setCell ⟨W.heap.size, 1, none⟩ (.slice (some ⟨g, 0, none⟩) (n + 1) c')) := by
  subst hU
  have hz : (W.alloc (.cells #[.string nm, .slice q n c] 29)).heap.size = W.heap.size + 1 := World.size_alloc _ _
  rw [hz] at ho hg0
  have hgl := ho.lt g rfl
  have hbx := ((CBox.new W nm q n c).below hb).grown hg (fun e => by have := Option.some.inj e; omega)
  have hb3 : Below W.heap.size W U3 := by
    have h1 := ((Below.refl W.heap.size W).alloc (Nat.le_refl _) (.cells #[.string nm, .slice q n c] 29)).trans (hb.mono (by rw [hz]; omega))
    exact h1.grown hg h1.size (fun g' hg' => by have := Option.some.inj hg'; omega)
  refine ⟨?_, ⟨by simp [hn], ?_⟩, Nat.le_refl _, by omega, ?_⟩
  · exact hbx.set1 _ _ _
  · rw [flCells_append]
    exact owned_base (ownsRow_setCell_other ho (a := ⟨W.heap.size, 1, none⟩) (fun e => by have := Option.some.inj e; simp at this; omega) _) (by omega)
  · exact hb3.setCell (p := ⟨W.heap.size, 1, none⟩) (Nat.le_refl _) _
end
theorem fine_set {fs : List Fl} (h : ∀ f ∈ fs, f.fine) (k : Nat) {g : Fl} (hg : g.fine) : ∀ f ∈ fs.set k g, f.fine := fun f hf => by
  rcases List.mem_or_eq_of_mem_set hf with h1 | rfl
  · exact h f h1
  · exact hg
theorem fine_more {fs : List Fl} (h : ∀ f ∈ fs, f.fine) {g : Fl} (hg : g.fine) : ∀ f ∈ fs ++ [g], f.fine := fun f hf => by
  rcases List.mem_append.1 hf with h1 | h1
  · exact h f h1
  · rw [List.mem_singleton.1 h1]; exact hg
theorem byte_text (b : UInt8) (w : World) : (convert 64 9 (.slice (some ⟨w.heap.size, 0, none⟩) 1 1)).run Tryz.prog (w.alloc (.cells #[.int .u8 (b.toNat : Int)] 5)).drew =
    .ok (.string ⟨#[b]⟩) (w.alloc (.cells #[.int .u8 (b.toNat : Int)] 5)).drew := by
  have := run_convert_bytes_back (P := Tryz.prog) (w.alloc (.cells #[.int .u8 (b.toNat : Int)] 5)).drew 64 9 5 ⟨w.heap.size, 0, none⟩ 1 [b] Tryz.underlying64 Tryz.underlying5 Tryz.underlying9 (fun j hj => by
    obtain rfl : j = 0 := by simpa using hj
    exact cell_of_row _ w.heap.size 0 #[.int .u8 (b.toNat : Int)] 5 (0, 0) (World.alloc_heap_new w _))
  exact this
/-- the class, and its fields, with what is carried along -/
structure OC (ea : Addr) (w : World) (ba : Nat) (a : Cl) (q : Option Addr) (c : Nat) (W : World) : Prop where
  ok : OkB ea w W
  cls : ClBox W ba a q c
theorem OC.go {ea : Addr} {w : World} {ba : Nat} {a : Cl} {q : Option Addr} {c : Nat} {W W' : World} (h : OC ea w ba a q c W) (hb : Below W.heap.size W W') : OC ea w ba a q c W' := ⟨h.ok.below hb, h.cls.below hb⟩
theorem OC.lt {ea : Addr} {w : World} {ba : Nat} {a : Cl} {q : Option Addr} {c : Nat} {W : World} (h : OC ea w ba a q c W) : ba < W.heap.size := h.cls.box.lt
/-- the k-th field's name in its cell -/
theorem fl_name {W : World} {b off n c : Nat} {fs : List Fl} (h : FLies W (some ⟨b, off, none⟩) n c fs) (k : Nat) (hk : k < fs.length) : b < W.heap.size ∧ W.cell? ⟨b, off + k * 4, none⟩ = some (.string fs[k].nm) := by
  obtain ⟨b', off', he, hb, hc⟩ := h.2.at (by omega)
  injection he with he
  injection he with e1 e2
  subst e1 e2
  have := hc (k * 4 + 0) _ (flCells_at fs k hk 0 (.string fs[k].nm) rfl)
  exact ⟨hb, this⟩

/-- append(nil, xs...) of one thing or more -/
theorem wpList_append_mine {P : Program} {w : World} {ops : Array Oper} {rest : List Oper} {o : Oper} {a : Act} {Q : Exit → Act → World → Prop} (hgd : o.guard = none) (s x : Operand) (t : TypeId)
    (ho : o.op = .call { callee := .builtin .append, args := #[s, x], argTypes := #[t, t] })
    (base : Nat) (e : TypeId) (i : TypeInfo) (z : Value) (size bytes : Nat) (ht : P.underlying t = some (.slice e)) (hi : P.info? e = some i) (hz : i.zero = some z)
    (hsize : i.size = size) (hby : i.bytes = bytes) (hzs : z.cells.size = size) (hsz : 0 < size)
    (hs : a.eval s = .slice none 0 0) (p : Option Addr) (m c : Nat) (xs : List Value) (hx : a.eval x = .slice p m c) (hL : Lies w (.slice p m c) m size xs) (h1 : ∀ u ∈ xs, u.oneCell' = true)
    (h63 : m ≤ maxLen) (hbytes : m * bytes ≤ 140737488355328) (hbase : base ≤ w.heap.size) (hm : 0 < m)
    (h : ∀ g c' w', w'.ownsRow base e size (.slice (some ⟨g, 0, none⟩) m c') m xs → w.grownBy w' none → wpList P ops Q rest (a.put o.dst (.slice (some ⟨g, 0, none⟩) m c')) w') : wpList P ops Q (o :: rest) a w := by
  refine wpList_append_copy hgd s x t ho base e i z size bytes ht hi hz hsize hby hzs hsz hs p m c xs hx hL h1 h63 hbytes hbase ?_
  intro p' c' w' hown hg
  obtain ⟨g, cap, he, _⟩ := hown.form hm
  injection he with e1 _ e2
  subst e1 e2
  exact h g _ w' hown hg
end Go.Proofs.YtffoklhopmhjaaaGreatDoor

/- What ClassFits carries along; rows that are copied and stored into. -/
set_option linter.unusedSimpArgs false
set_option linter.unusedVariables false
namespace Go.Proofs.YtffoklhopmhjaaaGreatDoor
open Go Go.RowKit Go.Shelf

theorem its_one : ∀ (ys : List It), ∀ u ∈ itsCells ys, u.oneCell' = true
  | [], u, hu => by cases hu
  | y :: ys, u, hu => by
    have hu' : u ∈ y.cells ++ itsCells ys := hu
    rcases List.mem_append.1 hu' with h | h
    · simp only [It.cells, List.mem_cons, List.mem_nil_iff, or_false] at h
      rcases h with rfl | rfl | rfl | rfl <;> rfl
    · exact its_one ys u h
theorem vrow_add {base : Nat} {W0 W W' : World} {vs : List V} {v v' : Value} {u : V} {y : It} {ys : List It} (h1 : ys.length = vs.length) (h2 : W0.ownsRow base 37 4 v ys.length (itsCells ys)) (h3 : ∀ (i : Nat) (h : i < ys.length) (h' : i < vs.length), VAt 1 W0 vs[i] ys[i]) (h4 : ∀ y ∈ ys, ∀ a, y.p = some a → v.ownBlock ≠ some a.block ∧ a.block < W0.heap.size ∧ base ≤ a.block) (hbase : base ≤ W0.heap.size)
    (hb : Below W0.heap.size W0 W) (hy : VAt 1 W u y) (hya : ∀ a, y.p = some a → W0.heap.size ≤ a.block ∧ a.block < W.heap.size)
    (hg : W.grownBy W' v.ownBlock) (ho' : W'.ownsRow base 37 4 v' (ys.length + 1) (itsCells ys ++ y.cells)) (hat : ∀ b, v'.ownBlock = some b → v.ownBlock = some b ∨ W.heap.size ≤ b) : VRow base W' (vs ++ [u]) v' := by
  have hall : ∀ z ∈ ys ++ [y], ∀ a, z.p = some a → v.ownBlock ≠ some a.block ∧ a.block < W.heap.size ∧ base ≤ a.block := fun z hz a ha => by
    rcases List.mem_append.1 hz with hz | hz
    · exact ⟨(h4 z hz a ha).1, Nat.lt_of_lt_of_le (h4 z hz a ha).2.1 hb.size, (h4 z hz a ha).2.2⟩
    · rw [List.mem_singleton.1 hz] at ha
      refine ⟨fun e => ?_, (hya a ha).2, by have := (hya a ha).1; omega⟩
      have := (h2.lt _ e).2
      have := (hya a ha).1
      omega
  refine ⟨ys ++ [y], by simp [h1], ?_, fun i a b => ?_, fun z hz a ha => ⟨fun e => ?_, Nat.lt_of_lt_of_le (hall z hz a ha).2.1 hg.size, (hall z hz a ha).2.2⟩⟩
  · rw [its_app, List.length_append]; exact ho'
  · have hz : (ys ++ [y])[i] ∈ ys ++ [y] := List.getElem_mem a
    have hne := hall _ hz
    refine vat_grown (W := W) ?_ hg (fun q hq => (hne q hq).1)
    rcases Nat.lt_or_ge i ys.length with hl | hl
    · have e1 : (ys ++ [y])[i] = ys[i] := List.getElem_append_left hl
      have e2 : (vs ++ [u])[i] = vs[i]'(by omega) := List.getElem_append_left (by omega)
      rw [e1, e2]
      exact (h3 i hl (by omega)).below hb
    · obtain rfl : i = ys.length := by simp at a; omega
      have e1 : (ys ++ [y])[ys.length] = y := by simp
      have e2 : (vs ++ [u])[ys.length] = u := by simp [h1]
      rw [e1, e2]
      exact hy
  · rcases hat _ e with h5 | h5
    · exact (hall z hz a ha).1 h5
    · have := (hall z hz a ha).2.1
      omega
/-- a copied row, one value of which is stored anew -/
theorem vcopy {W W' : World} {g n c : Nat} {ys : List It} (hn : n = ys.length) (ho : W'.ownsRow W.heap.size 37 4 (.slice (some ⟨g, 0, none⟩) n c) n (itsCells ys)) (hg : W.grownBy W' none) (k : Nat) (hk : k < ys.length) (y : It) :
    Below W.heap.size W ((((W'.setCell ⟨g, k * 4, none⟩ (.int .i64 y.k)).setCell ⟨g, k * 4 + 1, none⟩ (.int .i64 y.n)).setCell ⟨g, k * 4 + 2, none⟩ (.string y.s)).setCell ⟨g, k * 4 + 3, none⟩ (.slice y.p y.m y.c)) ∧
    Lies ((((W'.setCell ⟨g, k * 4, none⟩ (.int .i64 y.k)).setCell ⟨g, k * 4 + 1, none⟩ (.int .i64 y.n)).setCell ⟨g, k * 4 + 2, none⟩ (.string y.s)).setCell ⟨g, k * 4 + 3, none⟩ (.slice y.p y.m y.c)) (.slice (some ⟨g, 0, none⟩) n c) n 4 (itsCells (ys.set k y)) := by
  have hl := (ho.lt g rfl).1
  exact ⟨((((below_none hg).setCell (p := ⟨g, k * 4, none⟩) hl _).setCell (p := ⟨g, k * 4 + 1, none⟩) hl _).setCell (p := ⟨g, k * 4 + 2, none⟩) hl _).setCell (p := ⟨g, k * 4 + 3, none⟩) hl _, Lies.own ((VOwn.mk hn ho).put k hk y).row⟩
theorem vsat_set {W : World} {vs : List V} {ys : List It} {k : Nat} {v : V} {y : It} {vp : Option Addr} {n c : Nat} (hn : n = ys.length) (hlen : ys.length = vs.length) (hl : Lies W (.slice vp n c) n 4 (itsCells (ys.set k y))) (hi : ∀ (i : Nat) (h : i < ys.length) (h' : i < vs.length), VAt 1 W vs[i] ys[i]) (hy : VAt 1 W v y) : VsAt 1 W (vs.set k v) vp n c := by
  subst hn
  refine ⟨ys.set k y, by simp, by simp [hlen], by rw [List.length_set]; exact hl, fun i a b => ?_⟩
  rw [List.getElem_set, List.getElem_set]
  split
  · exact hy
  · exact hi i (by simpa using a) (by simpa using b)
/-- the class, and its values -/
structure FitSt (ea : Addr) (w : World) (ba : Nat) (a : Cl) (q : Option Addr) (c : Nat) (vs : List V) (ys : List It) (vp : Option Addr) (vc : Nat) (W : World) : Prop where
  oc : OC ea w ba a q c W
  vl : Lies W (.slice vp ys.length vc) ys.length 4 (itsCells ys)
  vi : ∀ (i : Nat) (h : i < ys.length) (h' : i < vs.length), VAt 1 W vs[i] ys[i]
section
variable {ea : Addr} {w : World} {ba : Nat} {a : Cl} {q : Option Addr} {c : Nat} {vs : List V} {ys : List It} {vp : Option Addr} {vc : Nat} {W W' : World}
theorem FitSt.go (h : FitSt ea w ba a q c vs ys vp vc W) (hb : Below W.heap.size W W') : FitSt ea w ba a q c vs ys vp vc W' := ⟨h.oc.go hb, h.vl.below hb, fun i a b => (h.vi i a b).below hb⟩
theorem FitSt.at (h : FitSt ea w ba a q c vs ys vp vc W) (hlen : ys.length = vs.length) : VsAt 1 W vs vp ys.length vc := ⟨ys, rfl, hlen, h.vl, h.vi⟩
end
/-- the k-th value's four cells -/
theorem its_cells {W : World} {vp : Option Addr} {n c : Nat} {ys : List It} (h : Lies W (.slice vp n c) n 4 (itsCells ys)) (k : Nat) (hk : k < ys.length) (hn : n = ys.length) : ∃ b off, vp = some ⟨b, off, none⟩ ∧ b < W.heap.size ∧ W.cell? ⟨b, off + k * 4, none⟩ = some (.int .i64 ys[k].k) ∧ W.cell? ⟨b, off + k * 4 + 1, none⟩ = some (.int .i64 ys[k].n) ∧ W.cell? ⟨b, off + k * 4 + 2, none⟩ = some (.string ys[k].s) ∧ W.cell? ⟨b, off + k * 4 + 3, none⟩ = some (.slice ys[k].p ys[k].m ys[k].c) := by
  obtain ⟨b, off, e, hb, hc⟩ := h.at (by omega)
  have hx : ∀ (j : Nat) (u : Value), (ys[k].cells)[j]? = some u → W.cell? ⟨b, off + k * 4 + j, none⟩ = some u := fun j u hu => by
    rw [Nat.add_assoc]
    exact hc _ _ (itsCells_at ys k hk j u hu)
  exact ⟨b, off, e, hb, hx 0 _ rfl, hx 1 _ rfl, hx 2 _ rfl, hx 3 _ rfl⟩
/-- a class's box that was stored into, and fields of its own -/
theorem Cp.ofBox {W U U' : World} {b : Nat} {nm : ByteArray} {q : Option Addr} {n c g c' : Nat} {fs : List Fl} (hn : n = fs.length) (hbx : CBox U b nm q n c) (hlo : W.heap.size ≤ b) (hU : Below W.heap.size W U) (ho : U'.ownsRow U.heap.size 48 4 (.slice (some ⟨g, 0, none⟩) n c') n (flCells fs)) (hg : U.grownBy U' none) :
    Cp W.heap.size W b nm g n c' fs (U'.setCell ⟨b, 1, none⟩ (.slice (some ⟨g, 0, none⟩) n c')) := by
  have hgl := ho.lt g rfl
  have hbl := hbx.lt
  have hb := below_none hg
  have hs := hU.size
  refine ⟨(hbx.below hb).set1 _ _ _, ⟨hn, ?_⟩, hlo, by omega, ?_⟩
  · exact owned_base (ownsRow_setCell_other ho (a := ⟨b, 1, none⟩) (fun e => by have := Option.some.inj e; simp at this; omega) _) (by omega)
  · exact (hU.trans (hb.mono hs)).setCell (p := ⟨b, 1, none⟩) hlo _
/-- the k-th field's type in its cells -/
theorem fl_type {W : World} {b off n c : Nat} {fs : List Fl} (h : FLies W (some ⟨b, off, none⟩) n c fs) (k : Nat) (hk : k < fs.length) : W.cell? ⟨b, off + k * 4 + 1, none⟩ = some (.int .i64 fs[k].k) ∧ W.cell? ⟨b, off + k * 4 + 2, none⟩ = some (.int .i64 fs[k].o) := by
  obtain ⟨b', off', he, hb, hc⟩ := h.2.at (by omega)
  injection he with he
  injection he with e1 e2
  subst e1 e2
  have h1 := hc (k * 4 + 1) _ (flCells_at fs k hk 1 (.int .i64 fs[k].k) rfl)
  have h2 := hc (k * 4 + 2) _ (flCells_at fs k hk 2 (.int .i64 fs[k].o) rfl)
  rw [← Nat.add_assoc] at h1 h2
  exact ⟨h1, h2⟩
def otherName : ByteArray := ⟨#[111, 116, 104, 101, 114]⟩
theorem otherName_ok : nmOk otherName.data.toList = true := by decide
end Go.Proofs.YtffoklhopmhjaaaGreatDoor

/- Two rows of values of one's own, appended to by turns; their items elsewhere. -/
set_option linter.unusedSimpArgs false
set_option linter.unusedVariables false
namespace Go.Proofs.YtffoklhopmhjaaaGreatDoor
open Go Go.RowKit Go.Shelf

/-- where an item's own items lie, if it has any -/
def Away (r : Option Nat) (N : Nat) (y : It) : Prop := y.m = 0 ∨ ∀ a, y.p = some a → r ≠ some a.block ∧ a.block < N
theorem vat_away {W W' : World} {u : V} {y : It} {r : Option Nat} {N : Nat} (h : VAt 1 W u y) (hg : W.grownBy W' r) (hne : Away r N y) : VAt 1 W' u y := by
  rcases hne with h0 | hne
  · obtain ⟨h1, h2, h3, h4, ys, h5, h6, h7⟩ := h
    have hl : u.l.length = 0 := by rw [← h5]; rcases h6.2 with ⟨e, _⟩ | ⟨b, off, c, e, _⟩
                                   · exact e
                                   · injection e with _ e2 _; omega
    refine ⟨h1, h2, h3, h4, [], by rw [hl]; rfl, ⟨rfl, .inl ⟨rfl, y.p, y.c, by rw [h0]⟩⟩, fun i a => absurd a (by simp)⟩
  · exact vat_grown h hg (fun a ha => (hne a ha).1)
theorem Away.mono {r : Option Nat} {N N' : Nat} {y : It} (h : Away r N y) (hN : N ≤ N') : Away r N' y := h.imp id (fun h a ha => ⟨(h a ha).1, Nat.lt_of_lt_of_le (h a ha).2 hN⟩)
structure TwoY (base : Nat) (W : World) (vs us : List V) (v1 v2 : Value) (ys zs : List It) : Prop where
  l1 : ys.length = vs.length
  l2 : zs.length = us.length
  o1 : W.ownsRow base 37 4 v1 ys.length (itsCells ys)
  o2 : W.ownsRow base 37 4 v2 zs.length (itsCells zs)
  a1 : ∀ (i : Nat) (h : i < ys.length) (h' : i < vs.length), VAt 1 W vs[i] ys[i]
  a2 : ∀ (i : Nat) (h : i < zs.length) (h' : i < us.length), VAt 1 W us[i] zs[i]
  d1 : ∀ y ∈ ys, Away v1.ownBlock W.heap.size y ∧ Away v2.ownBlock W.heap.size y
  d2 : ∀ y ∈ zs, Away v1.ownBlock W.heap.size y ∧ Away v2.ownBlock W.heap.size y
  ap : v1.ownBlock = none ∨ v1.ownBlock ≠ v2.ownBlock
theorem TwoY.nil (base : Nat) (W : World) : TwoY base W [] [] (.slice none 0 0) (.slice none 0 0) [] [] :=
  ⟨rfl, rfl, World.ownsRow_nil _ _ _ _, World.ownsRow_nil _ _ _ _, fun i h => absurd h (by simp), fun i h => absurd h (by simp), fun y h => (by cases h), fun y h => (by cases h), .inl rfl⟩
theorem TwoY.swap {base : Nat} {W : World} {vs us : List V} {v1 v2 : Value} {ys zs : List It} (h : TwoY base W vs us v1 v2 ys zs) : TwoY base W us vs v2 v1 zs ys := by
  refine ⟨h.l2, h.l1, h.o2, h.o1, h.a2, h.a1, fun y hy => ⟨(h.d2 y hy).2, (h.d2 y hy).1⟩, fun y hy => ⟨(h.d1 y hy).2, (h.d1 y hy).1⟩, ?_⟩
  rcases h.ap with h1 | h1
  · cases h2 : v2.ownBlock with
    | none => exact .inl rfl
    | some b => exact .inr (by rw [h1]; simp)
  · exact .inr (fun e => h1 e.symm)
theorem TwoY.go {base : Nat} {W W' : World} {vs us : List V} {v1 v2 : Value} {ys zs : List It} (h : TwoY base W vs us v1 v2 ys zs) (hb : Below W.heap.size W W') : TwoY base W' vs us v1 v2 ys zs :=
  ⟨h.l1, h.l2, owned_below h.o1 hb, owned_below h.o2 hb, fun i a b => (h.a1 i a b).below hb, fun i a b => (h.a2 i a b).below hb, fun y hy => ⟨(h.d1 y hy).1.mono hb.size, (h.d1 y hy).2.mono hb.size⟩, fun y hy => ⟨(h.d2 y hy).1.mono hb.size, (h.d2 y hy).2.mono hb.size⟩, h.ap⟩
theorem TwoY.add {base : Nat} {W W' : World} {vs us : List V} {v1 v2 v1' : Value} {ys zs : List It} {u : V} {y : It} (h : TwoY base W vs us v1 v2 ys zs) (hy : VAt 1 W u y) (hyd : Away v1.ownBlock W.heap.size y ∧ Away v2.ownBlock W.heap.size y)
    (hg : W.grownBy W' v1.ownBlock) (ho : W'.ownsRow base 37 4 v1' (ys.length + 1) (itsCells ys ++ y.cells)) (hat : ∀ b, v1'.ownBlock = some b → v1.ownBlock = some b ∨ W.heap.size ≤ b) : TwoY base W' (vs ++ [u]) us v1' v2 (ys ++ [y]) zs := by
  have hs := hg.size
  have hall : ∀ z ∈ ys ++ [y], Away v1.ownBlock W.heap.size z ∧ Away v2.ownBlock W.heap.size z := fun z hz => by
    rcases List.mem_append.1 hz with hz | hz
    · exact h.d1 z hz
    · rw [List.mem_singleton.1 hz]; exact hyd
  have hnew : ∀ z, Away v1.ownBlock W.heap.size z → Away v1'.ownBlock W'.heap.size z := fun z hz => by
    rcases hz with h0 | hz
    · exact .inl h0
    · refine .inr (fun a ha => ⟨fun e => ?_, Nat.lt_of_lt_of_le (hz a ha).2 hs⟩)
      rcases hat _ e with h1 | h1
      · exact (hz a ha).1 h1
      · have := (hz a ha).2; omega
  have hne2 : v2.ownBlock = none ∨ v2.ownBlock ≠ v1.ownBlock := by
    rcases h.swap.ap with h1 | h1
    · exact .inl h1
    · exact .inr h1
  refine ⟨by simp [h.l1], h.l2, by rw [its_app, List.length_append]; exact ho, h.o2.kept hg hne2, fun i a b => ?_, fun i a b => vat_away (h.a2 i a b) hg (h.d2 _ (List.getElem_mem a)).1, fun z hz => ⟨hnew z (hall z hz).1, (hall z hz).2.mono hs⟩, fun z hz => ⟨hnew z (h.d2 z hz).1, (h.d2 z hz).2.mono hs⟩, ?_⟩
  · have hz : (ys ++ [y])[i] ∈ ys ++ [y] := List.getElem_mem a
    refine vat_away (W := W) ?_ hg (hall _ hz).1
    rcases Nat.lt_or_ge i ys.length with hl | hl
    · have e1 : (ys ++ [y])[i] = ys[i] := List.getElem_append_left hl
      have e2 : (vs ++ [u])[i] = vs[i]'(by have := h.l1; omega) := List.getElem_append_left (by have := h.l1; omega)
      rw [e1, e2]
      exact h.a1 i hl (by have := h.l1; omega)
    · obtain rfl : i = ys.length := by simp at a; omega
      have e1 : (ys ++ [y])[ys.length] = y := by simp
      have e2 : (vs ++ [u])[ys.length] = u := by simp [h.l1]
      rw [e1, e2]
      exact hy
  · cases hb : v1'.ownBlock with
    | none => exact .inl rfl
    | some b =>
      refine .inr (fun e => ?_)
      rcases hat _ hb with h1 | h1
      · rcases h.ap with h2 | h2
        · rw [h2] at h1; cases h1
        · exact h2 (by rw [h1, e])
      · have := (h.o2.lt b e.symm).2
        omega
/-- items that lie behind a world's end -/
theorem away_new {W : World} {u : V} {y : It} {N : Nat} (h : VAt 1 W u y) (hl : y.m = 0 ∨ ∀ a, y.p = some a → N ≤ a.block) (r : Option Nat) (hr : ∀ b, r = some b → b < N) : Away r W.heap.size y := by
  rcases Nat.eq_zero_or_pos y.m with h0 | hp
  · exact .inl h0
  · rcases hl with h0 | hl
    · omega
    · obtain ⟨_, _, _, _, ys, h5, h6, _⟩ := h
      refine .inr (fun a ha => ⟨fun e => by have := hr _ e; have := hl a ha; omega, ?_⟩)
      rcases h6.2 with ⟨e, p', c', e2⟩ | ⟨b, off, c', e, hb, _⟩
      · injection e2 with _ e3 _; omega
      · injection e with e1 _ _
        rw [ha] at e1
        have := Option.some.inj e1
        subst this
        exact hb
/-- items that lay before a block came -/
theorem away_old {W : World} {u : V} {y : It} (h : VAt 1 W u y) {g N : Nat} (hg : W.heap.size ≤ g) (hN : W.heap.size ≤ N) : Away (some g) N y := by
  obtain ⟨_, _, _, _, ys, h5, h6, _⟩ := h
  rcases h6.2 with ⟨e, p', c', e2⟩ | ⟨b, off, c', e, hb, _⟩
  · injection e2 with _ e3 _
    exact .inl e3
  · injection e with e1 _ _
    refine .inr (fun a ha => ?_)
    rw [ha] at e1
    have := Option.some.inj e1
    subst this
    exact ⟨fun e => by have := Option.some.inj e; simp only at this; omega, Nat.lt_of_lt_of_le hb hN⟩
end Go.Proofs.YtffoklhopmhjaaaGreatDoor

/- val.Refs, val.Weaks, morainelaw03.nums. -/
set_option linter.unusedSimpArgs false
set_option linter.unusedVariables false
namespace Go.Proofs.YtffoklhopmhjaaaGreatDoor
open Go Go.RowKit Go.Shelf

theorem intsPost_trans {ks : List Int} {w w0 w' : World} {e : Ending} (hb : Below w.heap.size w w0) (h : intsPost ks w0 e w') : intsPost ks w e w' := by
  obtain ⟨p, c, h1, h2, h3⟩ := h
  exact ⟨p, c, h1, h2, hb.trans (h3.mono hb.size)⟩
theorem refs_any (d : Nat) (v : V) (x : It) (w : World) (hx : VAt d w v x) (hT : Tabs w) :
    Calls Tryz.prog 13 #[x.v] w (intsPost (numsOf 3 v) w) := by
  have hn := fun W (hb : Below w.heap.size w W) => numbers_any d v x 3 W (hx.below hb) (hT.below hb)
  obtain ⟨xk, xn, xs, p, m, c⟩ := x
  have hb : Below w.heap.size w (w.alloc (.cells #[.int .i64 xk, .int .i64 xn, .string xs, .slice p m c] 37)) := (Below.refl _ _).alloc (Nat.le_refl _) _
  obtain ⟨⟨c0, c1, c2, c3⟩, _⟩ := (VBox.new w xk xn xs (.slice p m c)).facts
  generalize numsOf 3 v = ks at hn ⊢
  have HN := Lib.hid hn
  have HB := Lib.hid hb
  clear hn hb hx hT
  go_enter Tryz.func13, Tryz.ntmps13
  go_wp2_with fail
  refine (HN.out _ HB.out).mono ?_
  rintro e W1 ⟨p', c', rfl, h2, h3⟩
  go_wp2_with fail
  go_ret
  exact ⟨p', c', rfl, h2, HB.out.trans (h3.mono HB.out.size)⟩
theorem weaks_any (d : Nat) (v : V) (x : It) (w : World) (hx : VAt d w v x) (hT : Tabs w) :
    Calls Tryz.prog 14 #[x.v] w (intsPost (numsOf 4 v) w) := by
  have hn := fun W (hb : Below w.heap.size w W) => numbers_any d v x 4 W (hx.below hb) (hT.below hb)
  obtain ⟨xk, xn, xs, p, m, c⟩ := x
  have hb : Below w.heap.size w (w.alloc (.cells #[.int .i64 xk, .int .i64 xn, .string xs, .slice p m c] 37)) := (Below.refl _ _).alloc (Nat.le_refl _) _
  obtain ⟨⟨c0, c1, c2, c3⟩, _⟩ := (VBox.new w xk xn xs (.slice p m c)).facts
  generalize numsOf 4 v = ks at hn ⊢
  have HN := Lib.hid hn
  have HB := Lib.hid hb
  clear hn hb hx hT
  go_enter Tryz.func14, Tryz.ntmps14
  go_wp2_with fail
  refine (HN.out _ HB.out).mono ?_
  rintro e W1 ⟨p', c', rfl, h2, h3⟩
  go_wp2_with fail
  go_ret
  exact ⟨p', c', rfl, h2, HB.out.trans (h3.mono HB.out.size)⟩

end Go.Proofs.YtffoklhopmhjaaaGreatDoor

/- The walk of ValWritten. -/
set_option linter.unusedSimpArgs false
set_option linter.unusedVariables false
namespace Go.Proofs.YtffoklhopmhjaaaGreatDoor
open Go Go.RowKit Go.Shelf

theorem vtext_len {a : V} (h : a.ok = true) : a.text.length ≤ 1600 := by
  unfold V.text
  by_cases h5 : a.k = 5
  · rw [if_pos h5]
    obtain ⟨_, hl, hu⟩ := ok_list h h5
    have := itemsText_len a.l (fun u h => (okIn_parts (hu u h)).2)
    rw [List.length_cons, List.length_append, List.length_singleton]
    omega
  · rw [if_neg h5]
    have := textIn_len (ok_flat h h5)
    omega
theorem vtext_inj {a b : V} (ha : a.ok = true) (hb : b.ok = true) (h : a.text = b.text) : a = b := by
  have h1 := readV_text a ha [] (.inr (by simp))
  have h2 := readV_text b hb [] (.inr (by simp))
  rw [h, h2] at h1
  injection h1 with h1
  exact (Prod.mk.inj h1).1.symm

end Go.Proofs.YtffoklhopmhjaaaGreatDoor

/- The walk of ClassValues. -/
set_option linter.unusedSimpArgs false
set_option linter.unusedVariables false
namespace Go.Proofs.YtffoklhopmhjaaaGreatDoor
open Go Go.RowKit Go.Shelf

/-- the bytes of the first values, one behind the other -/
def putTo (vs : List V) (k : Nat) : List UInt8 := (vs.take k).flatMap V.bytes
theorem putTo_succ (vs : List V) (k : Nat) (h : k < vs.length) : putTo vs (k + 1) = putTo vs k ++ vs[k].bytes := by
  unfold putTo
  rw [List.take_succ_eq_append_getElem h, List.flatMap_append]
  simp
theorem putTo_len {vs : List V} (h : ∀ v ∈ vs, v.ok = true) : ∀ k, k ≤ vs.length → (putTo vs k).length ≤ k * 150000
  | 0, _ => by simp [putTo]
  | k + 1, hk => by
    rw [putTo_succ vs k (by omega), List.length_append]
    have h1 := putTo_len h k (by omega)
    have h2 := (bytes_len (h _ (List.getElem_mem (show k < vs.length by omega)))).2
    omega
theorem putTo_drop (vs : List V) (k n : Nat) (hk : k < n) (hn : n ≤ vs.length) : ∃ r, (putTo vs n).drop (putTo vs k).length = vs[k].bytes ++ r := by
  have hs : vs.take n = vs.take k ++ (vs[k] :: (vs.take n).drop (k + 1)) := by
    have h1 : vs.take k = (vs.take n).take k := by rw [List.take_take]; congr 1; omega
    rw [h1]
    have h2 : vs[k] = (vs.take n)[k]'(by rw [List.length_take]; omega) := by rw [List.getElem_take]
    rw [h2, ← List.drop_eq_getElem_cons, List.take_append_drop]
  refine ⟨((vs.take n).drop (k + 1)).flatMap V.bytes, ?_⟩
  unfold putTo
  conv => lhs; rw [hs]
  rw [List.flatMap_append, List.drop_left]
  rfl

set_option maxHeartbeats 8000000 in
set_option maxRecDepth 100000 in
theorem classValues_walk (x : CRaw) (hx : x.fine) (p : Option Addr) (c0' : Nat) (l : List Int) (lp : Option Addr) (lc : Nat) (hll : l.length ≤ 9223372036854775807) (ea : Addr) (w : World) (hT : Tabs w) (hE : errLies ea w) (hPw : Pow w)
    (hL : Lies w (.slice p x.l.length c0') x.l.length 4 (frawCells x.l)) (hI : ILies w lp lc l) :
    Calls Tryz.prog 3 #[crawV x p c0', .slice lp l.length lc] w fun e w' => e = .returned (.bool true) ∧ Below w.heap.size w w' := by
  obtain ⟨i0, hi, hz0, hz1, hz2⟩ := info_parts infoVal4
  have b1 : Below w.heap.size w (w.alloc (.cells #[.int .i64 x.n, .slice p x.l.length c0'] 24)) := (Below.refl _ _).alloc (Nat.le_refl _) _
  have R0 : CRBox (w.alloc (.cells #[.int .i64 x.n, .slice p x.l.length c0'] 24)) w.heap.size x p c0' := ⟨World.alloc_heap_new _ _, hL.below b1⟩
  have oka := clsOf_ok x
  have hofa := fun W h => clsOf_any x hx p c0' W h
  unfold clsOfPost at hofa
  generalize clsOf x = a at oka hofa
  obtain ⟨wa1, wa2, wa3, wa4, wa5⟩ := cl_wide oka
  obtain ⟨nm, fs⟩ := a
  simp only at wa1 wa2 wa3 hofa
  have hok : ∀ (i : Nat) (h : i < fs.length), rtB fs[i].k fs[i].o = true := fun i h => (Fl.ok_parts ((Cl.ok_parts oka).2.2 i h).1).2.2.2.1
  have hfit := vsTo_fit oka l (many := 6) (by decide)
  have hvo := fun W q c (hF : FLies W q fs.length c fs) (hI : ILies W lp lc l) => valsOf4_any nm q c fs wa3 hok l lp lc hll 6 (by decide) W hF hI
  unfold valsOf4Post at hvo
  generalize vsTo fs l 6 fs.length = vs at hfit hvo
  have hvok : ∀ v ∈ vs, v.ok = true := fun v hv => by
    obtain ⟨i, hi, rfl⟩ := List.getElem_of_mem hv
    exact fits_ok (hfit.2 i hi (by rw [← hfit.1]; exact hi))
  have hchk : ∀ (us : List V) (W : World) (q : Option Addr) (c : Nat) (p : Option Addr) (m2 c2 : Nat), FLies W q fs.length c fs → VsAt 1 W us p m2 c2 → m2 ≤ 20 → Tabs W → Calls Tryz.prog 12 #[clV nm q fs.length c, .slice p m2 c2] W fun e w' => e = .returned (.tuple #[.int .i64 (checkC ⟨nm, fs⟩ us).1, .int .i64 (checkC ⟨nm, fs⟩ us).2]) ∧ Below W.heap.size W w' := fun us W q c p m2 c2 h1 h3 h4 hT => clsCheck_any 1 nm q fs.length c fs wa1 wa2 us p m2 c2 W h1 (by omega) h3 (by omega) hT
  have O0 : OkB ea w (w.alloc (.cells #[.int .i64 x.n, .slice p x.l.length c0'] 24)) := ⟨hT.below b1, hE.below b1, b1⟩
  have HOFA := Lib.hid hofa
  have HVO := Lib.hid hvo
  have HCHK := Lib.hid hchk
  have OKA := Lib.hid oka
  have HFIT := Lib.hid hfit
  have HVOK := Lib.hid hvok
  have HI := Lib.hid hI
  have HPW := Lib.hid hPw
  have HLV := Lib.hid hfit.1
  clear hofa hvo hchk hT hE hPw hL b1 oka hok hx wa1 wa4 wa5 wa2 hfit hvok hI hll
  go_enter Tryz.func3, Tryz.ntmps3
  go_wp2_with fail
  refine (clsEx_any ea _ O0.t O0.e).mono ?_
  rintro e W1 ⟨rfl, hB⟩
  have O1 := Lib.hid (O0.below hB)
  have r1 := R0.below hB
  clear O0 R0 hB
  obtain ⟨r0, r2⟩ := r1.facts
  have R1 := Lib.hid r1
  clear r1
  go_wp2_with fail
  refine (HOFA.out _ R1.out.lies).mono ?_
  rintro e W2 ⟨q, c, rfl, hl, hB⟩
  have hal : Below W2.heap.size W2 (W2.alloc (.cells #[.string nm, .slice q fs.length c] 29)) := (Below.refl _ _).alloc (Nat.le_refl _) _
  have A2 := Lib.hid (show OC ea w W2.heap.size ⟨nm, fs⟩ q c (W2.alloc (.cells #[.string nm, .slice q fs.length c] 29)) from ⟨(O1.out.below hB).below hal, CBox.new _ _ _ _ _, hl.below hal⟩)
  clear r0 r2 O1 R1 hl hB hal HOFA
  obtain ⟨c0, c1⟩ := A2.out.cls.box.facts
  simp only at c0 c1
  go_wp2_with fail
  generalize W2.alloc (.cells #[.string nm, .slice q fs.length c] 29) = U2 at A2 c0 c1 ⊢
  generalize W2.heap.size = ba at A2 c0 c1 ⊢
  refine (HVO.out U2 q c A2.out.cls.lies (HI.out.below A2.out.ok.b)).mono ?_
  rintro e W3 ⟨vp, vc, rfl, hv, hB⟩
  obtain ⟨ys, hyl, hlen, hvl, hvi⟩ := hv
  have F3 := Lib.hid (show FitSt ea w ba ⟨nm, fs⟩ q c vs ys vp vc W3 from ⟨A2.out.go hB, hvl, hvi⟩)
  have HYL := Lib.hid hyl
  have HLEN := Lib.hid hlen
  clear hvl hvi hB c0 c1 HVO HI A2 hyl hlen
  go_wp2_with fail
  go_loopw [8, 9] (fun s i wr => ∃ (k : Nat) (S : ByteArray), k ≤ fs.length ∧ i = .int .i64 (k : Int) ∧ s = .string S ∧ S.data.toList = putTo vs k ∧ Below W3.heap.size W3 wr) (fun s i _ => fs.length - (intOf i).toNat)
  case atStart => exact ⟨0, ⟨#[]⟩, by omega, rfl, rfl, rfl, Below.refl _ _⟩
  case round =>
    obtain ⟨k, S, hk, rfl, rfl, hS, hBW⟩ := hrel
    have HS := Lib.hid hS
    have HBW := Lib.hid hBW
    clear hS hBW
    by_cases hlt : k < fs.length
    · have d1 : decide ((k : Int) < (fs.length : Int)) = true := decide_eq_true (by omega)
      have d1' : (k : Int) < (fs.length : Int) := by omega
      have d0 : (0 : Int) ≤ (k : Int) := by omega
      have hfw := F3.out.go HBW.out
      have hky : k < ys.length := by have := HYL.out; omega
      have hkv : k < vs.length := by have := HLV.out; omega
      obtain ⟨b, off, rfl, _, y0, y1, y2, y3⟩ := its_cells hfw.vl k hky rfl
      have hok := HVOK.out _ (List.getElem_mem hkv)
      have henc := encode_V 1 vs[k] ys[k] wr (hfw.vi k hky hkv) hfw.oc.ok.t
      have hsu := putTo_succ vs k hkv
      have hpl := putTo_len HVOK.out k (by omega)
      have hbl := bytes_len hok
      unfold encPost at henc
      rw [if_pos hok, if_pos hok] at henc
      generalize ys[k] = y at y0 y1 y2 y3 henc
      obtain ⟨Bs, hBs⟩ : ∃ Bs : ByteArray, (⟨vs[k].bytes.toArray⟩ : ByteArray) = Bs := ⟨_, rfl⟩
      rw [hBs] at henc
      have hBsz : Bs.size = vs[k].bytes.length := by rw [← hBs]; show vs[k].bytes.toArray.size = _; rw [List.size_toArray]
      have hSz : S.size = (putTo vs k).length := by rw [← HS.out]; simp
      have hcat : ¬ 9223372036854775807 < S.size + Bs.size := by rw [hSz, hBsz]; omega
      have hnx : (S ++ Bs).data.toList = putTo vs (k + 1) := by rw [hsu, ← HS.out, ← hBs]; simp [ByteArray.data_append]
      obtain ⟨yk, yn, yz, yp, ym, yc⟩ := y
      have henc2 : Calls Tryz.prog 7 #[.agg #[.int .i64 yk, .int .i64 yn, .string yz, .slice yp ym yc]] wr fun e w' => e = .returned (.tuple #[.string Bs, .int .i64 0]) ∧ Below wr.heap.size wr w' := henc
      have HENC := Lib.hid henc2
      have HNX := Lib.hid hnx
      have hszw := HBW.out.size
      clear hfw hok henc henc2 hsu hpl hbl hBs hBsz hSz hnx
      go_wp2_with fail
      refine HENC.out.mono ?_
      rintro e Y1 ⟨rfl, hBY⟩
      have HB2 := Lib.hid (HBW.out.trans (hBY.mono hszw))
      clear hBY
      go_wp2_with fail
      refine ⟨⟨k + 1, S ++ Bs, by omega, by go_num, rfl, HNX.out, HB2.out⟩, ?_⟩
      first
        | (simp [intOf]; omega)
        | (trace_state; show fs.length - ((k : Int) + 1).toNat < fs.length - (k : Int).toNat; omega)
    · obtain rfl : k = fs.length := by omega
      have d1 : decide ((fs.length : Int) < (fs.length : Int)) = false := decide_eq_false (by omega)
      have F4 := Lib.hid (F3.out.go HBW.out)
      clear HBW F3
      go_wp2_with fail
      obtain ⟨Z, rfl⟩ : ∃ Z, Z = wr := ⟨_, rfl⟩
      have hplz := putTo_len HVOK.out fs.length (by have := HLV.out; omega)
      have hSz : S.size = (putTo vs fs.length).length := by rw [← HS.out]; simp
      have hSle : S.size ≤ 1200000 := by omega
      clear hplz
      go_loopw [12, 13, 14, 15] (fun b r a i wr => ∃ (k : Nat) (v1 v2 : Option Addr) (e1 e2 : Nat) (zs1 zs2 : List It), k ≤ fs.length ∧ i = .int .i64 (k : Int) ∧ b = .slice v1 k e1 ∧ r = .slice v2 k e2 ∧ a = .int .i64 ((putTo vs k).length : Int) ∧ TwoY Z.heap.size wr (vs.take k) (vs.take k) (.slice v1 k e1) (.slice v2 k e2) zs1 zs2 ∧ Below Z.heap.size Z wr) (fun b r a i _ => fs.length - (intOf i).toNat)
      case atStart => exact ⟨0, none, none, 0, 0, [], [], by omega, rfl, rfl, rfl, by simp [putTo], by rw [List.take_zero]; exact TwoY.nil _ _, Below.refl _ _⟩
      case round =>
        obtain ⟨k, v1, v2, e1, e2, zs1, zs2, hk, rfl, rfl, rfl, rfl, hty, hBW⟩ := hrel
        have HTY := Lib.hid hty
        have HBW := Lib.hid hBW
        clear hty hBW
        have hszw := HBW.out.size
        have hfw := F4.out.go HBW.out
        by_cases hlt : k < fs.length
        · have d1 : decide ((k : Int) < (fs.length : Int)) = true := decide_eq_true (by omega)
          have d1' : (k : Int) < (fs.length : Int) := by omega
          have d0 : (0 : Int) ≤ (k : Int) := by omega
          have hky : k < ys.length := by have := HYL.out; omega
          have hkv : k < vs.length := by have := HLV.out; omega
          have hok := HVOK.out _ (List.getElem_mem hkv)
          obtain ⟨rr, hrr⟩ := putTo_drop vs k fs.length hlt (by have := HLV.out; omega)
          have hps := putTo_succ vs k hkv
          have hpk := putTo_len HVOK.out (k + 1) (by omega)
          have hple : (putTo vs k).length ≤ S.size := by
            rw [hSz]
            have h1 := congrArg List.length hrr
            rw [List.length_drop, List.length_append] at h1
            have h2 := (bytes_len hok).1
            omega
          have hdec : Calls Tryz.prog 8 #[.string S, .int .i64 ((putTo vs k).length : Int)] wr fun e W' => Below wr.heap.size wr W' ∧ ∃ x : It, e = .returned (.tuple #[x.v, .int .i64 ((putTo vs (k + 1)).length : Int), .int .i64 0]) ∧ VAt 1 W' vs[k] x ∧ (x.m = 0 ∨ ∀ a, x.p = some a → wr.heap.size ≤ a.block) :=
            (decode_loc S (by omega) (putTo vs k).length hple ea wr hfw.oc.ok.t hfw.oc.ok.e).mono (fun e W' h => by
              obtain ⟨h1, h2⟩ := h
              rw [HS.out, hrr, decV_append _ hok rr] at h2
              obtain ⟨x, h3, h4, h5⟩ := h2
              refine ⟨h1, x, ?_, h4, h5⟩
              rw [h3, hps, List.length_append]
              push_cast
              rfl)
          have htx := fun W (h : Below wr.heap.size wr W) => vtext_any vs[k] hok ys[k] W ((hfw.go h).vi k hky hkv) (HPW.out.below (hfw.go h).oc.ok.b) (hfw.go h).oc.ok.t
          have htl := vtext_len hok
          obtain ⟨Ts, hTs⟩ : ∃ Ts : ByteArray, (⟨vs[k].text.toArray⟩ : ByteArray) = Ts := ⟨_, rfl⟩
          have hTl : Ts.data.toList = vs[k].text := by rw [← hTs]
          have hTz : Ts.size = vs[k].text.length := by rw [← hTl]; simp
          rw [hTs] at htx
          have hcz : ((⟨#[91, 32]⟩ : ByteArray) ++ Ts).size = 2 + Ts.size := by rw [ByteArray.size_append]; rfl
          have hread : ∀ W, Tabs W → Calls Tryz.prog 10 #[.string ((⟨#[91, 32]⟩ : ByteArray) ++ Ts), .int .i64 2] W fun e W' => Below W.heap.size W W' ∧ ∃ x : It, e = .returned (.tuple #[x.v, .int .i64 (2 + (Ts.size : Int)), .int .i64 0]) ∧ VAt 1 W' vs[k] x ∧ (x.m = 0 ∨ ∀ a, x.p = some a → W.heap.size ≤ a.block) := fun W hT =>
            (readTop_loc ((⟨#[91, 32]⟩ : ByteArray) ++ Ts) (by rw [hcz]; omega) 2 (by rw [hcz]; omega) W hT).mono (fun e W' h => by
              obtain ⟨h1, h2⟩ := h
              have hd : ((⟨#[91, 32]⟩ : ByteArray) ++ Ts).data.toList.drop 2 = vs[k].text ++ [] := by rw [ByteArray.data_append, Array.toList_append, hTl, List.append_nil]; rfl
              rw [hd, readV_text _ hok [] (.inr (fun c hc => by cases hc))] at h2
              obtain ⟨x, h3, h4, h5⟩ := h2
              refine ⟨h1, x, ?_, h4, h5⟩
              rw [h3, hTz]
              rfl)
          have hcat1 : ¬ 9223372036854775807 < 2 + Ts.size := by omega
          have hcat2 : ¬ 9223372036854775807 < (⟨#[91, 32]⟩ : ByteArray).size + Ts.size := by rw [show (⟨#[91, 32]⟩ : ByteArray).size = 2 from rfl]; omega
          have hwz : IntKind.i64.wrap (2 + (Ts.size : Int)) = 2 + (Ts.size : Int) := IntWalk.i64_in _ (by omega)
          have hsame : ∀ W x y, VAt 1 W vs[k] x → VAt 1 W vs[k] y → Calls Tryz.prog 11 #[x.v, y.v] W fun e w' => e = .returned (.bool true) ∧ Below W.heap.size W w' := fun W x y h1 h2 => by
            have h := same_any 1 vs[k] vs[k] x y W h1 h2
            rw [cmpV_self] at h
            exact h
          have htk : vs.take (k + 1) = vs.take k ++ [vs[k]] := List.take_succ_eq_append_getElem hkv
          have hvi := fun W (h : Below wr.heap.size wr W) => (hfw.go h).vi k hky hkv
          have hycs := fun W (h : Below wr.heap.size wr W) => its_cells (hfw.go h).vl k hky rfl
          have hpl2 : (putTo vs (k + 1)).length ≤ 9223372036854775807 := by omega
          generalize vs[k] = v at hdec htx hread hsame htk hvi hok
          generalize ys[k] = y at htx hvi hycs
          obtain ⟨yk, yn, yz, yp, ym, yc⟩ := y
          have HDEC := Lib.hid hdec
          have HTX := Lib.hid htx
          have HREAD := Lib.hid hread
          have HSAME := Lib.hid hsame
          have HTK := Lib.hid htk
          have HVI := Lib.hid hvi
          have HYCS := Lib.hid hycs
          have HFW := Lib.hid hfw
          clear hdec htx hread hsame htk hvi hycs hfw hrr hps hpk hple hTs hTl hTz hcz hok htl hSz
          go_wp2_with fail
          refine HDEC.out.mono ?_
          rintro e Y1 ⟨hB1, x, rfl, hx, hxl⟩
          obtain ⟨xk, xn, xz, xp, xm, xc⟩ := x
          have hal1 := (Below.refl Y1.heap.size Y1).alloc (Nat.le_refl _) (.cells #[.int .i64 xk, .int .i64 xn, .string xz, .slice xp xm xc] 37)
          have hbA := hB1.trans (hal1.mono hB1.size)
          have hvx := VBox.new Y1 xk xn xz (.slice xp xm xc)
          have hx1 := hx.below hal1
          obtain ⟨vb, voff, hvp, _, y0, y1, y2, y3⟩ := HYCS.out _ hbA
          subst hvp
          have htx1 := HTX.out _ hbA
          have HTX1 := Lib.hid htx1
          have HX1 := Lib.hid hx1
          have HXL := Lib.hid hxl
          have HVX := Lib.hid hvx
          have HBA := Lib.hid hbA
          clear hB1 hx hxl hal1 hbA hvx hx1 htx1 HDEC HTX
          go_upto_region 21 with fail
          generalize Y1.alloc (.cells #[.int .i64 xk, .int .i64 xn, .string xz, .slice xp xm xc] 37) = X1 at HTX1 HX1 HVX HBA y0 y1 y2 y3 ⊢
          generalize Y1.heap.size = bx1 at HVX ⊢
          go_wp2_with fail
          refine HTX1.out.mono ?_
          rintro e Y2 ⟨rfl, hB2⟩
          have hbB := HBA.out.trans (hB2.mono HBA.out.size)
          have hrd := HREAD.out Y2 (HFW.out.go hbB).oc.ok.t
          have HRD := Lib.hid hrd
          have HX2 := Lib.hid (HX1.out.below hB2)
          have HVX2 := Lib.hid (HVX.out.below hB2)
          have HBB := Lib.hid hbB
          clear hB2 hbB hrd HTX1 HX1 HVX HBA y0 y1 y2 y3 HREAD
          go_wp2_with fail
          refine HRD.out.mono ?_
          rintro e Y3 ⟨hB3, u, rfl, hu, hul⟩
          obtain ⟨uk, un, uz, up, um, uc⟩ := u
          have hal3 := (Below.refl Y3.heap.size Y3).alloc (Nat.le_refl _) (.cells #[.int .i64 uk, .int .i64 un, .string uz, .slice up um uc] 37)
          have hb3 := hB3.trans (hal3.mono hB3.size)
          have HBC := Lib.hid (HBB.out.trans (hb3.mono HBB.out.size))
          have HX3 := Lib.hid (HX2.out.below hb3)
          have HVX3 := Lib.hid (HVX2.out.below hb3)
          have HU3 := Lib.hid (hu.below hal3)
          have HUX := Lib.hid (VBox.new Y3 uk un uz (.slice up um uc))
          have hz3 : wr.heap.size ≤ Y3.heap.size := Nat.le_trans HBB.out.size hB3.size
          have hul2 : um = 0 ∨ ∀ a, up = some a → wr.heap.size ≤ a.block := hul.imp id (fun h a ha => Nat.le_trans HBB.out.size (h a ha))
          have HUL := Lib.hid hul2
          clear hB3 hu hul hul2 hal3 hb3 HRD HX2 HVX2 HBB
          go_upto_region 23 with fail
          generalize Y3.alloc (.cells #[.int .i64 uk, .int .i64 un, .string uz, .slice up um uc] 37) = X3 at HBC HX3 HVX3 HU3 HUX ⊢
          generalize Y3.heap.size = bx2 at HUX hz3 ⊢
          have hd3 : Below X3.heap.size X3 X3.drew := (Below.refl _ _).drew
          have hbD := HBC.out.trans (hd3.mono HBC.out.size)
          obtain ⟨vb', voff', hvp, _, y0, y1, y2, y3⟩ := HYCS.out _ hbD
          injection hvp with hvp
          injection hvp with hv1 hv2
          subst hv1 hv2
          obtain ⟨⟨x0, x1, x2, x3⟩, _⟩ := (HVX3.out.below hd3).facts
          have hS0 : X3.drew.cell? ⟨bx1, 0, none⟩ = some (.int .i64 xk) ∧ X3.drew.cell? ⟨bx1, 1, none⟩ = some (.int .i64 xn) ∧ X3.drew.cell? ⟨bx1, 2, none⟩ = some (.string xz) ∧ X3.drew.cell? ⟨bx1, 3, none⟩ = some (.slice xp xm xc) ∧ X3.drew.cell? ⟨vb, voff + k * 4, none⟩ = some (.int .i64 yk) ∧ X3.drew.cell? ⟨vb, voff + k * 4 + 1, none⟩ = some (.int .i64 yn) ∧ X3.drew.cell? ⟨vb, voff + k * 4 + 2, none⟩ = some (.string yz) ∧ X3.drew.cell? ⟨vb, voff + k * 4 + 3, none⟩ = some (.slice yp ym yc) := ⟨x0, x1, x2, x3, y0, y1, y2, y3⟩
          have hsm := HSAME.out X3.drew _ _ (HX3.out.below hd3) (HVI.out _ hbD)
          have hsm2 : Calls Tryz.prog 11 #[.agg #[.int .i64 xk, .int .i64 xn, .string xz, .slice xp xm xc], .agg #[.int .i64 yk, .int .i64 yn, .string yz, .slice yp ym yc]] X3.drew fun e w' => e = .returned (.bool true) ∧ Below X3.drew.heap.size X3.drew w' := hsm
          have HSM := Lib.hid hsm2
          have HD3 := Lib.hid hd3
          have hself : ((2 : Int) + (Ts.size : Int) != 2 + (Ts.size : Int)) = false := by simp
          clear hsm hsm2 hd3 hbD x0 x1 x2 x3 y0 y1 y2 y3 HSAME
          have hsw : ∀ W, Below X3.drew.heap.size X3.drew W → W.cell? ⟨bx1, 0, none⟩ = some (.int .i64 xk) ∧ W.cell? ⟨bx1, 1, none⟩ = some (.int .i64 xn) ∧ W.cell? ⟨bx1, 2, none⟩ = some (.string xz) ∧ W.cell? ⟨bx1, 3, none⟩ = some (.slice xp xm xc) ∧ W.cell? ⟨vb, voff + k * 4, none⟩ = some (.int .i64 yk) ∧ W.cell? ⟨vb, voff + k * 4 + 1, none⟩ = some (.int .i64 yn) ∧ W.cell? ⟨vb, voff + k * 4 + 2, none⟩ = some (.string yz) ∧ W.cell? ⟨vb, voff + k * 4 + 3, none⟩ = some (.slice yp ym yc) := fun W h => by
            have h2 := HD3.out.trans h
            have h3 := HBC.out.trans (h2.mono HBC.out.size)
            obtain ⟨⟨x0, x1, x2, x3⟩, _⟩ := (HVX3.out.below h2).facts
            obtain ⟨vb', voff', hvp, _, y0, y1, y2, y3⟩ := HYCS.out _ h3
            injection hvp with hvp
            injection hvp with hv1 hv2
            subst hv1 hv2
            exact ⟨x0, x1, x2, x3, y0, y1, y2, y3⟩
          have HSW := Lib.hid hsw
          clear hsw
          go_wp2_with fail
          refine wp_region_T (fun W : World => W.cell? ⟨bx1, 0, none⟩ = some (.int .i64 xk) ∧ W.cell? ⟨bx1, 1, none⟩ = some (.int .i64 xn) ∧ W.cell? ⟨bx1, 2, none⟩ = some (.string xz) ∧ W.cell? ⟨bx1, 3, none⟩ = some (.slice xp xm xc) ∧ W.cell? ⟨vb, voff + k * 4, none⟩ = some (.int .i64 yk) ∧ W.cell? ⟨vb, voff + k * 4 + 1, none⟩ = some (.int .i64 yn) ∧ W.cell? ⟨vb, voff + k * 4 + 2, none⟩ = some (.string yz) ∧ W.cell? ⟨vb, voff + k * 4 + 3, none⟩ = some (.slice yp ym yc)) (fun j => false) (by kernel_rfl) ?_
          refine wpAnyT_take (i := 0) (v := ?va0) rfl (by kernel_rfl) (by kernel_rfl) (by kernel_rfl) (by kernel_rfl) (by kernel_rfl) (fun _ _ _ h => h) (Or.inl ⟨by rfl, ?ya0⟩) (hS0) ?ra0
          case ya0 => (intro w hSw; (try dsimp only at hSw); go_simp; try with_reducible rfl)
          try simp only [Act.put, List.setIfInBounds_toArray, List.set_cons_zero, List.set_cons_succ, List.getElem_toArray, List.getElem_cons_succ, List.getElem_cons_zero]
          refine wpAnyT_take (i := 1) (v := ?va1) rfl (by kernel_rfl) (by kernel_rfl) (by kernel_rfl) (by kernel_rfl) (by kernel_rfl) (fun _ _ _ h => h) (Or.inl ⟨by rfl, ?ya1⟩) (hS0) ?ra1
          case ya1 => (intro w hSw; (try dsimp only at hSw); go_simp; try with_reducible rfl)
          try simp only [Act.put, List.setIfInBounds_toArray, List.set_cons_zero, List.set_cons_succ, List.getElem_toArray, List.getElem_cons_succ, List.getElem_cons_zero]
          refine wpAnyT_take (i := 2) (v := ?va2) rfl (by kernel_rfl) (by kernel_rfl) (by kernel_rfl) (by kernel_rfl) (by kernel_rfl) (fun _ _ _ h => h) (Or.inl ⟨by rfl, ?ya2⟩) (hS0) ?ra2
          case ya2 => (intro w hSw; (try dsimp only at hSw); go_simp; try with_reducible rfl)
          try simp only [Act.put, List.setIfInBounds_toArray, List.set_cons_zero, List.set_cons_succ, List.getElem_toArray, List.getElem_cons_succ, List.getElem_cons_zero]
          refine wpAnyT_take (i := 3) (v := ?va3) rfl (by kernel_rfl) (by kernel_rfl) (by kernel_rfl) (by kernel_rfl) (by kernel_rfl) (fun _ _ _ h => h) (Or.inl ⟨by rfl, ?ya3⟩) (hS0) ?ra3
          case ya3 => (intro w hSw; (try dsimp only at hSw); go_simp; try with_reducible rfl)
          try simp only [Act.put, List.setIfInBounds_toArray, List.set_cons_zero, List.set_cons_succ, List.getElem_toArray, List.getElem_cons_succ, List.getElem_cons_zero]
          refine wpAnyT_take (i := 4) (v := ?va4) rfl (by kernel_rfl) (by kernel_rfl) (by kernel_rfl) (by kernel_rfl) (by kernel_rfl) (fun _ _ _ h => h) (Or.inl ⟨by rfl, ?ya4⟩) (hS0) ?ra4
          case ya4 => (intro w hSw; (try dsimp only at hSw); go_simp; try with_reducible rfl)
          try simp only [Act.put, List.setIfInBounds_toArray, List.set_cons_zero, List.set_cons_succ, List.getElem_toArray, List.getElem_cons_succ, List.getElem_cons_zero]
          refine wpAnyT_take (i := 5) (v := ?va5) rfl (by kernel_rfl) (by kernel_rfl) (by kernel_rfl) (by kernel_rfl) (by kernel_rfl) (fun _ _ _ h => h) (Or.inl ⟨by rfl, ?ya5⟩) (hS0) ?ra5
          case ya5 => (intro w hSw; (try dsimp only at hSw); go_simp; try with_reducible rfl)
          try simp only [Act.put, List.setIfInBounds_toArray, List.set_cons_zero, List.set_cons_succ, List.getElem_toArray, List.getElem_cons_succ, List.getElem_cons_zero]
          refine wpAnyT_take (i := 6) (v := ?va6) rfl (by kernel_rfl) (by kernel_rfl) (by kernel_rfl) (by kernel_rfl) (by kernel_rfl) (fun _ _ _ h => h) (Or.inl ⟨by rfl, ?ya6⟩) (hS0) ?ra6
          case ya6 => (intro w hSw; (try dsimp only at hSw); go_simp; try with_reducible rfl)
          try simp only [Act.put, List.setIfInBounds_toArray, List.set_cons_zero, List.set_cons_succ, List.getElem_toArray, List.getElem_cons_succ, List.getElem_cons_zero]
          refine wpAnyT_take (i := 7) (v := ?va7) rfl (by kernel_rfl) (by kernel_rfl) (by kernel_rfl) (by kernel_rfl) (by kernel_rfl) (fun _ _ _ h => h) (Or.inl ⟨by rfl, ?ya7⟩) (hS0) ?ra7
          case ya7 => (intro w hSw; (try dsimp only at hSw); go_simp; try with_reducible rfl)
          try simp only [Act.put, List.setIfInBounds_toArray, List.set_cons_zero, List.set_cons_succ, List.getElem_toArray, List.getElem_cons_succ, List.getElem_cons_zero]
          refine wpAnyT_take (i := 8) (v := ?va8) rfl (by kernel_rfl) (by kernel_rfl) (by kernel_rfl) (by kernel_rfl) (by kernel_rfl) (fun _ _ _ h => h) (Or.inl ⟨by rfl, ?ya8⟩) (hS0) ?ra8
          case ya8 => (intro w hSw; (try dsimp only at hSw); go_simp; try with_reducible rfl)
          try simp only [Act.put, List.setIfInBounds_toArray, List.set_cons_zero, List.set_cons_succ, List.getElem_toArray, List.getElem_cons_succ, List.getElem_cons_zero]
          refine wpAnyT_take (i := 9) (v := ?va9) rfl (by kernel_rfl) (by kernel_rfl) (by kernel_rfl) (by kernel_rfl) (by kernel_rfl) (fun _ _ _ h => h) (Or.inl ⟨by rfl, ?ya9⟩) (hS0) ?ra9
          case ya9 => (intro w hSw; (try dsimp only at hSw); go_simp; try with_reducible rfl)
          try simp only [Act.put, List.setIfInBounds_toArray, List.set_cons_zero, List.set_cons_succ, List.getElem_toArray, List.getElem_cons_succ, List.getElem_cons_zero]
          refine wpAnyT_take (i := 10) (v := ?va10) rfl (by kernel_rfl) (by kernel_rfl) (by kernel_rfl) (by kernel_rfl) (by kernel_rfl) (fun _ _ _ h => h) (Or.inl ⟨by rfl, ?ya10⟩) (hS0) ?ra10
          case ya10 => (intro w hSw; (try dsimp only at hSw); go_simp; try with_reducible rfl)
          try simp only [Act.put, List.setIfInBounds_toArray, List.set_cons_zero, List.set_cons_succ, List.getElem_toArray, List.getElem_cons_succ, List.getElem_cons_zero]
          refine wpAnyT_take (i := 11) (v := ?va11) rfl (by kernel_rfl) (by kernel_rfl) (by kernel_rfl) (by kernel_rfl) (by kernel_rfl) (fun _ _ _ h => h) (Or.inl ⟨by rfl, ?ya11⟩) (hS0) ?ra11
          case ya11 => (intro w hSw; (try dsimp only at hSw); go_simp; try with_reducible rfl)
          try simp only [Act.put, List.setIfInBounds_toArray, List.set_cons_zero, List.set_cons_succ, List.getElem_toArray, List.getElem_cons_succ, List.getElem_cons_zero]
          refine wpAnyT_take (i := 12) (v := ?va12) rfl (by kernel_rfl) (by kernel_rfl) (by kernel_rfl) (by kernel_rfl) (by kernel_rfl) (fun _ _ _ h => h) (Or.inl ⟨by rfl, ?ya12⟩) (hS0) ?ra12
          case ya12 => (intro w hSw; (try dsimp only at hSw); go_simp; try with_reducible rfl)
          try simp only [Act.put, List.setIfInBounds_toArray, List.set_cons_zero, List.set_cons_succ, List.getElem_toArray, List.getElem_cons_succ, List.getElem_cons_zero]
          refine wpAnyT_take (i := 13) (v := ?va13) rfl (by kernel_rfl) (by kernel_rfl) (by kernel_rfl) (by kernel_rfl) (by kernel_rfl) (fun _ _ _ h => h) (Or.inl ⟨by rfl, ?ya13⟩) (hS0) ?ra13
          case ya13 => (intro w hSw; (try dsimp only at hSw); go_simp; try with_reducible rfl)
          try simp only [Act.put, List.setIfInBounds_toArray, List.set_cons_zero, List.set_cons_succ, List.getElem_toArray, List.getElem_cons_succ, List.getElem_cons_zero]
          refine wpAnyT_take (i := 14) (v := ?va14) rfl (by kernel_rfl) (by kernel_rfl) (by kernel_rfl) (by kernel_rfl) (by kernel_rfl) (fun _ _ _ h => h) (Or.inl ⟨by rfl, ?ya14⟩) (hS0) ?ra14
          case ya14 => (intro w hSw; (try dsimp only at hSw); go_simp; try with_reducible rfl)
          try simp only [Act.put, List.setIfInBounds_toArray, List.set_cons_zero, List.set_cons_succ, List.getElem_toArray, List.getElem_cons_succ, List.getElem_cons_zero]
          refine wpAnyT_take (i := 15) (v := ?va15) rfl (by kernel_rfl) (by kernel_rfl) (by kernel_rfl) (by kernel_rfl) (by kernel_rfl) (fun _ _ _ h => h) (Or.inl ⟨by rfl, ?ya15⟩) (hS0) ?ra15
          case ya15 => (intro w hSw; (try dsimp only at hSw); go_simp; try with_reducible rfl)
          try simp only [Act.put, List.setIfInBounds_toArray, List.set_cons_zero, List.set_cons_succ, List.getElem_toArray, List.getElem_cons_succ, List.getElem_cons_zero]
          refine wpAnyT_take (i := 16) (v := ?va16) rfl (by kernel_rfl) (by kernel_rfl) (by kernel_rfl) (by kernel_rfl) (by kernel_rfl) (fun _ _ _ h => h) (Or.inl ⟨by rfl, ?ya16⟩) (hS0) ?ra16
          case ya16 => (intro w hSw; (try dsimp only at hSw); go_simp; try with_reducible rfl)
          try simp only [Act.put, List.setIfInBounds_toArray, List.set_cons_zero, List.set_cons_succ, List.getElem_toArray, List.getElem_cons_succ, List.getElem_cons_zero]
          refine wpAnyT_take (i := 17) (v := ?va17) rfl (by kernel_rfl) (by kernel_rfl) (by kernel_rfl) (by kernel_rfl) (by kernel_rfl) (fun _ _ _ h => h) (Or.inl ⟨by rfl, ?ya17⟩) (hS0) ?ra17
          case ya17 => (intro w hSw; (try dsimp only at hSw); go_simp; try with_reducible rfl)
          try simp only [Act.put, List.setIfInBounds_toArray, List.set_cons_zero, List.set_cons_succ, List.getElem_toArray, List.getElem_cons_succ, List.getElem_cons_zero]
          refine wpAnyT_take (i := 18) (v := ?va18) rfl (by kernel_rfl) (by kernel_rfl) (by kernel_rfl) (by kernel_rfl) (by kernel_rfl) (fun _ _ _ h => h) (Or.inl ⟨by rfl, ?ya18⟩) (hS0) ?ra18
          case ya18 => (intro w hSw; (try dsimp only at hSw); go_simp; try with_reducible rfl)
          try simp only [Act.put, List.setIfInBounds_toArray, List.set_cons_zero, List.set_cons_succ, List.getElem_toArray, List.getElem_cons_succ, List.getElem_cons_zero]
          refine wpAnyT_take (i := 19) (v := ?va19) rfl (by kernel_rfl) (by kernel_rfl) (by kernel_rfl) (by kernel_rfl) (by kernel_rfl) (fun _ _ _ h => h) (Or.inl ⟨by rfl, ?ya19⟩) (hS0) ?ra19
          case ya19 => (intro w hSw; (try dsimp only at hSw); go_simp; try with_reducible rfl)
          try simp only [Act.put, List.setIfInBounds_toArray, List.set_cons_zero, List.set_cons_succ, List.getElem_toArray, List.getElem_cons_succ, List.getElem_cons_zero]
          refine wpAnyT_take (i := 20) (v := ?va20) rfl (by kernel_rfl) (by kernel_rfl) (by kernel_rfl) (by kernel_rfl) (by kernel_rfl) (fun _ _ _ h => h) (Or.inl ⟨by rfl, ?ya20⟩) (hS0) ?ra20
          case ya20 => (intro w hSw; (try dsimp only at hSw); go_simp; try with_reducible rfl)
          try simp only [Act.put, List.setIfInBounds_toArray, List.set_cons_zero, List.set_cons_succ, List.getElem_toArray, List.getElem_cons_succ, List.getElem_cons_zero]
          refine wpAnyT_take (i := 21) (v := ?va21) rfl (by kernel_rfl) (by kernel_rfl) (by kernel_rfl) (by kernel_rfl) (by kernel_rfl) (fun _ _ _ h => h) (Or.inl ⟨by rfl, ?ya21⟩) (hS0) ?ra21
          case ya21 => (intro w hSw; (try dsimp only at hSw); go_simp; try with_reducible rfl)
          try simp only [Act.put, List.setIfInBounds_toArray, List.set_cons_zero, List.set_cons_succ, List.getElem_toArray, List.getElem_cons_succ, List.getElem_cons_zero]
          refine wpAnyT_take (i := 22) (v := ?va22) rfl (by kernel_rfl) (by kernel_rfl) (by kernel_rfl) (by kernel_rfl) (by kernel_rfl) (fun _ _ _ h => h) (Or.inl ⟨by rfl, ?ya22⟩) (hS0) ?ra22
          case ya22 => (intro w hSw; (try dsimp only at hSw); go_simp; try with_reducible rfl)
          try simp only [Act.put, List.setIfInBounds_toArray, List.set_cons_zero, List.set_cons_succ, List.getElem_toArray, List.getElem_cons_succ, List.getElem_cons_zero]
          refine wpAnyT_run (i := 23) (by kernel_rfl) rfl (fun K hK => ?_)
          go_simp
          (refine HSM.out.mono ?_; rintro e Y4 ⟨rfl, hB4⟩)
          have hS4 := HSW.out _ hB4
          go_wp2_with fail
          refine hK.out _ _ (fun _ => hS4) ?_
          clear hK K
          try simp only [Act.put, List.setIfInBounds_toArray, List.set_cons_zero, List.set_cons_succ, List.getElem_toArray, List.getElem_cons_succ, List.getElem_cons_zero]
          refine wpAnyT_take (i := 24) (v := ?va24) rfl (by kernel_rfl) (by kernel_rfl) (by kernel_rfl) (by kernel_rfl) (by kernel_rfl) (fun _ _ _ h => h) (Or.inl ⟨by rfl, ?ya24⟩) (hS4) ?ra24
          case ya24 => (intro w hSw; (try dsimp only at hSw); go_simp; try with_reducible rfl)
          try simp only [Act.put, List.setIfInBounds_toArray, List.set_cons_zero, List.set_cons_succ, List.getElem_toArray, List.getElem_cons_succ, List.getElem_cons_zero]
          refine wpAnyT_take (i := 25) (v := ?va25) rfl (by kernel_rfl) (by kernel_rfl) (by kernel_rfl) (by kernel_rfl) (by kernel_rfl) (fun _ _ _ h => h) (Or.inl ⟨by rfl, ?ya25⟩) (hS4) ?ra25
          case ya25 => (intro w hSw; (try dsimp only at hSw); go_simp; try with_reducible rfl)
          try simp only [Act.put, List.setIfInBounds_toArray, List.set_cons_zero, List.set_cons_succ, List.getElem_toArray, List.getElem_cons_succ, List.getElem_cons_zero]
          refine wpAnyT_done (by kernel_rfl) ?_ _
          have hb4 := HD3.out.trans hB4
          have HBD := Lib.hid (HBC.out.trans (hb4.mono HBC.out.size))
          have HX4 := Lib.hid (HX3.out.below hb4)
          have HVX4 := Lib.hid (HVX3.out.below hb4)
          have HU4 := Lib.hid (HU3.out.below hb4)
          have HUX4 := Lib.hid (HUX.out.below hb4)
          have HB4 := Lib.hid hb4
          clear hS4 hS0 hB4 hb4 HSM HD3 HSW HX3 HVX3 HU3 HUX
          obtain ⟨⟨x0, x1, x2, x3⟩, _⟩ := HVX4.out.facts
          have halx := (Below.refl Y4.heap.size Y4).alloc (Nat.le_refl _) (.cells #[.int .i64 xk, .int .i64 xn, .string xz, .slice xp xm xc] 37)
          have hbx := HBD.out.trans (halx.mono HBD.out.size)
          have htyx := HTY.out.go hbx
          have hzl : zs1.length = k := by rw [HTY.out.l1, List.length_take]; have := HLV.out; omega
          have hzl2 : zs2.length = k := by rw [HTY.out.l2, List.length_take]; have := HLV.out; omega
          have hown1 := htyx.o1
          rw [hzl] at hown1
          have hxa : ∀ r, (∀ b, r = some b → b < wr.heap.size) → Away r (Y4.alloc (.cells #[.int .i64 xk, .int .i64 xn, .string xz, .slice xp xm xc] 37)).heap.size ⟨xk, xn, xz, xp, xm, xc⟩ := fun r hr => away_new (HX4.out.below halx) HXL.out r hr
          have hr1 : ∀ b, (Value.slice v1 k e1).ownBlock = some b → b < wr.heap.size := fun b hb => (HTY.out.o1.lt b hb).2
          have hr2 : ∀ b, (Value.slice v2 k e2).ownBlock = some b → b < wr.heap.size := fun b hb => (HTY.out.o2.lt b hb).2
          have hadd : ∀ gg cap w2, w2.ownsRow Z.heap.size 37 4 (.slice (some ⟨gg, 0, none⟩) (k + 1) cap) (k + 1) (itsCells zs1 ++ [.int .i64 xk, .int .i64 xn, .string xz, .slice xp xm xc]) → (Y4.alloc (.cells #[.int .i64 xk, .int .i64 xn, .string xz, .slice xp xm xc] 37)).grownBy w2 (Value.slice v1 k e1).ownBlock → ((Value.slice v1 k e1).ownBlock = some gg ∨ gg = Y4.heap.size + 1) → TwoY Z.heap.size w2 (vs.take k ++ [v]) (vs.take k) (.slice (some ⟨gg, 0, none⟩) (k + 1) cap) (.slice v2 k e2) (zs1 ++ [⟨xk, xn, xz, xp, xm, xc⟩]) zs2 ∧ Below Z.heap.size Z w2 ∧ VAt 1 w2 v ⟨uk, un, uz, up, um, uc⟩ ∧ VBox w2 bx2 uk un uz (.slice up um uc) ∧ Y4.heap.size ≤ w2.heap.size := fun gg cap w2 ho hg hgg => by
            have hs := hg.size
            rw [World.size_alloc] at hs
            have hbz := (HBW.out.trans (hbx.mono HBW.out.size)).grown hg (HBW.out.trans (hbx.mono HBW.out.size)).size (fun g hg' => (HTY.out.o1.lt g hg').1)
            have hua : Away (Value.slice v1 k e1).ownBlock (Y4.alloc (.cells #[.int .i64 xk, .int .i64 xn, .string xz, .slice xp xm xc] 37)).heap.size ⟨uk, un, uz, up, um, uc⟩ := away_new (HU4.out.below halx) HUL.out _ hr1
            have hux := HUX4.out.below halx
            refine ⟨htyx.add (HX4.out.below halx) ⟨hxa _ hr1, hxa _ hr2⟩ hg (by rw [hzl]; exact ho) (fun b hb => ?_), hbz, vat_away (HU4.out.below halx) hg hua, (hg.block _ hux.lt (fun e => by have := hr1 _ e.symm; omega)).trans hux, by omega⟩
            have e := Option.some.inj hb
            simp only at e
            rcases hgg with h | h
            · left; rw [h, e]
            · right; rw [World.size_alloc]; omega
          have HADD := Lib.hid hadd
          have HOWN1 := Lib.hid hown1
          have hszy : Z.heap.size ≤ Y4.heap.size := Nat.le_trans hszw HBD.out.size
          clear hadd hown1 hxa hr1 hr2 htyx halx hbx
          go_upto_region 27 with (at_builtin; refine wpList_append_lies _ rfl _ _ _ rfl Z.heap.size 37 i0 _ 4 56 Tryz.underlying31 hi hz0 hz1 hz2 rfl (by omega) _ k _ rfl HOWN1.out ⟨Y4.heap.size, 0, none⟩ 1 1 [.int .i64 xk, .int .i64 xn, .string xz, .slice xp xm xc] rfl rfl (World.news_of_block (cs := #[.int .i64 xk, .int .i64 xn, .string xz, .slice xp xm xc]) (t := 37) (fr := (0, 0)) (World.alloc_heap_new Y4 _)) (by simp [Value.oneCell']) (by omega) (by simp [maxLen] <;> omega) (by omega) (by simp <;> omega) (Y4.heap.size + 1) (by simp) ?_; intro gg cap w2 hownA hgrowA hatgA hltA)
          obtain ⟨hty2, hbz2, hu2, hux2, hsz2⟩ := HADD.out gg cap w2 hownA hgrowA hatgA
          obtain ⟨⟨u0, u1, u2, u3⟩, _⟩ := hux2.facts
          have hal2 := (Below.refl w2.heap.size w2).alloc (Nat.le_refl _) (.cells #[.int .i64 uk, .int .i64 un, .string uz, .slice up um uc] 37)
          have htyu := hty2.swap.go hal2
          have hown2 := htyu.o1
          rw [hzl2] at hown2
          have hr1 : ∀ b, (Value.slice v1 k e1).ownBlock = some b → b < wr.heap.size := fun b hb => (HTY.out.o1.lt b hb).2
          have hr2 : ∀ b, (Value.slice v2 k e2).ownBlock = some b → b < wr.heap.size := fun b hb => (HTY.out.o2.lt b hb).2
          have hs2 : (w2.alloc (.cells #[.int .i64 uk, .int .i64 un, .string uz, .slice up um uc] 37)).heap.size = w2.heap.size + 1 := World.size_alloc _ _
          have hau : Away (Value.slice v2 k e2).ownBlock (w2.alloc (.cells #[.int .i64 uk, .int .i64 un, .string uz, .slice up um uc] 37)).heap.size ⟨uk, un, uz, up, um, uc⟩ ∧ Away (Value.slice (some ⟨gg, 0, none⟩) (k + 1) cap).ownBlock (w2.alloc (.cells #[.int .i64 uk, .int .i64 un, .string uz, .slice up um uc] 37)).heap.size ⟨uk, un, uz, up, um, uc⟩ := by
            refine ⟨away_new (hu2.below hal2) HUL.out _ hr2, ?_⟩
            rcases hatgA with h | h
            · exact away_new (hu2.below hal2) HUL.out _ (fun b hb => hr1 b (h.trans hb))
            · exact away_old (g := gg) HU4.out (by omega) (by omega)
          have hadd2 : ∀ gh cap2 w3, w3.ownsRow Z.heap.size 37 4 (.slice (some ⟨gh, 0, none⟩) (k + 1) cap2) (k + 1) (itsCells zs2 ++ [.int .i64 uk, .int .i64 un, .string uz, .slice up um uc]) → (w2.alloc (.cells #[.int .i64 uk, .int .i64 un, .string uz, .slice up um uc] 37)).grownBy w3 (Value.slice v2 k e2).ownBlock → ((Value.slice v2 k e2).ownBlock = some gh ∨ gh = w2.heap.size + 1) → TwoY Z.heap.size w3 (vs.take (k + 1)) (vs.take (k + 1)) (.slice (some ⟨gg, 0, none⟩) (k + 1) cap) (.slice (some ⟨gh, 0, none⟩) (k + 1) cap2) (zs1 ++ [⟨xk, xn, xz, xp, xm, xc⟩]) (zs2 ++ [⟨uk, un, uz, up, um, uc⟩]) ∧ Below Z.heap.size Z w3 := fun gh cap2 w3 ho hg hgg => by
            have hbw := hbz2.trans (hal2.mono hbz2.size)
            refine ⟨?_, hbw.grown hg hbw.size (fun g hg' => (HTY.out.o2.lt g hg').1)⟩
            rw [HTK.out]
            refine (htyu.add (hu2.below hal2) hau hg (by rw [hzl2]; exact ho) (fun b hb => ?_)).swap
            have e := Option.some.inj hb
            simp only at e
            rcases hgg with h | h
            · left; rw [h, e]
            · right; omega
          have HADD2 := Lib.hid hadd2
          have HOWN2 := Lib.hid hown2
          have hszw2 : Z.heap.size ≤ w2.heap.size := by omega
          clear hadd2 hown2 hau htyu hal2 hty2 hbz2 hu2 hux2 hr1 hr2 HADD HOWN1 x0 x1 x2 x3 hs2
          go_wp2_with (at_builtin; refine wpList_append_lies _ rfl _ _ _ rfl Z.heap.size 37 i0 _ 4 56 Tryz.underlying31 hi hz0 hz1 hz2 rfl (by omega) _ k _ rfl HOWN2.out ⟨w2.heap.size, 0, none⟩ 1 1 [.int .i64 uk, .int .i64 un, .string uz, .slice up um uc] rfl rfl (World.news_of_block (cs := #[.int .i64 uk, .int .i64 un, .string uz, .slice up um uc]) (t := 37) (fr := (0, 0)) (World.alloc_heap_new w2 _)) (by simp [Value.oneCell']) (by omega) (by simp [maxLen] <;> omega) (by omega) (by simp <;> omega) (w2.heap.size + 1) (by simp) ?_; intro gh cap2 w3 hownB hgrowB hatgB hltB)
          exact ⟨⟨k + 1, some ⟨gg, 0, none⟩, some ⟨gh, 0, none⟩, cap, cap2, _, _, by omega, by go_num, rfl, rfl, rfl, HADD2.out _ _ _ hownB hgrowB hatgB⟩, by simp [intOf]; omega⟩
        · obtain rfl : k = fs.length := by omega
          have d1 : decide ((fs.length : Int) < (fs.length : Int)) = false := decide_eq_false (by omega)
          have htn : vs.take fs.length = vs := List.take_of_length_le (by have := HLV.out; omega)
          have hty := HTY.out
          rw [htn] at hty
          have hz1 : zs1.length = fs.length := by rw [hty.l1, HLV.out]
          have hz2 : zs2.length = fs.length := by rw [hty.l2, HLV.out]
          have hv1 : VsAt 1 wr vs v1 fs.length e1 := ⟨zs1, hz1.symm, hty.l1, by rw [hz1]; have := Lies.own hty.o1; rwa [hz1] at this, hty.a1⟩
          have hl2 : Lies wr (.slice v2 fs.length e2) fs.length 4 (itsCells zs2) := by have := Lies.own hty.o2; rwa [hz2] at this
          have hv2 : VsAt 1 wr vs v2 fs.length e2 := ⟨zs2, hz2.symm, hty.l2, by rw [hz2]; exact hl2, hty.a2⟩
          have ha2 := hty.a2
          obtain ⟨c0, c1⟩ := hfw.oc.cls.box.facts
          simp only at c0 c1
          have hc1 := fun W (h : Below wr.heap.size wr W) => HCHK.out vs W q c v1 fs.length e1 (hfw.go h).oc.cls.lies (hv1.below h) (by omega) (hfw.go h).oc.ok.t
          have hc2 := fun W (h : Below wr.heap.size wr W) => HCHK.out vs W q c v2 fs.length e2 (hfw.go h).oc.cls.lies (hv2.below h) (by omega) (hfw.go h).oc.ok.t
          rw [HFIT.out.check OKA.out] at hc1 hc2
          have HC1 := Lib.hid hc1
          have HC2 := Lib.hid hc2
          have HFW := Lib.hid hfw
          have HL2 := Lib.hid hl2
          have HA2 := Lib.hid ha2
          have HZ2 := Lib.hid hz2
          clear hc1 hc2 hfw hl2 ha2 hv1 hv2 hty htn HTY F4 hz1 hz2
          go_wp2_with fail
          refine (HC1.out _ (Below.refl _ _)).mono ?_
          rintro e Y1 ⟨rfl, hB1⟩
          have HB1 := Lib.hid hB1
          have hf1 := HFW.out.go hB1
          obtain ⟨c2, c3⟩ := hf1.oc.cls.box.facts
          simp only at c2 c3
          clear hB1 hf1 c0 c1
          go_wp2_with fail
          refine (HC2.out _ HB1.out).mono ?_
          rintro e Y2 ⟨rfl, hB2⟩
          have HB2 := Lib.hid (HB1.out.trans (hB2.mono HB1.out.size))
          clear hB2 c2 c3 HB1 HC1 HC2
          obtain ⟨X0, rfl⟩ : ∃ X0, X0 = wr := ⟨_, rfl⟩
          go_wp2_with fail
          go_loopw [28] (fun i wr => ∃ k : Nat, k ≤ fs.length ∧ i = .int .i64 (k : Int) ∧ Below Y2.heap.size Y2 wr) (fun i _ => fs.length - (intOf i).toNat)
          case atStart => exact ⟨0, by omega, rfl, Below.refl _ _⟩
          case round =>
            obtain ⟨k, hk, rfl, hBk⟩ := hrel
            have HBK := Lib.hid hBk
            have HBX := Lib.hid (HB2.out.trans (hBk.mono HB2.out.size))
            have hszk := hBk.size
            clear hBk
            by_cases hlt : k < fs.length
            · have f1 : decide ((k : Int) < (fs.length : Int)) = true := decide_eq_true (by omega)
              have f1' : (k : Int) < (fs.length : Int) := by omega
              have f0 : (0 : Int) ≤ (k : Int) := by omega
              have hky : k < ys.length := by have := HYL.out; omega
              have hkv : k < vs.length := by have := HLV.out; omega
              have hkz : k < zs2.length := by have := HZ2.out; omega
              obtain ⟨rb, roff, rfl, hrb, _⟩ := its_cells HL2.out k hkz HZ2.out.symm
              obtain ⟨vb, voff, hvp, hvb, _⟩ := its_cells HFW.out.vl k hky rfl
              subst hvp
              have hcr := fun W (h : Below X0.heap.size X0 W) => its_cells (HL2.out.below h) k hkz HZ2.out.symm
              have hcv := fun W (h : Below X0.heap.size X0 W) => its_cells (HFW.out.go h).vl k hky rfl
              have hrr := fun W (h : Below X0.heap.size X0 W) => refs_any 1 vs[k] zs2[k] W ((HA2.out k hkz hkv).below h) (HFW.out.go h).oc.ok.t
              have hrv := fun W (h : Below X0.heap.size X0 W) => refs_any 1 vs[k] ys[k] W ((HFW.out.go h).vi k hky hkv) (HFW.out.go h).oc.ok.t
              have hwr := fun W (h : Below X0.heap.size X0 W) => weaks_any 1 vs[k] zs2[k] W ((HA2.out k hkz hkv).below h) (HFW.out.go h).oc.ok.t
              have hwv := fun W (h : Below X0.heap.size X0 W) => weaks_any 1 vs[k] ys[k] W ((HFW.out.go h).vi k hky hkv) (HFW.out.go h).oc.ok.t
              unfold intsPost at hrr hrv hwr hwv
              generalize numsOf 3 vs[k] = n3 at hrr hrv
              generalize numsOf 4 vs[k] = n4 at hwr hwv
              generalize zs2[k] = z at hcr hrr hwr
              generalize ys[k] = y at hcv hrv hwv
              obtain ⟨zk, zn, zz, zp, zm, zc⟩ := z
              obtain ⟨yk, yn, yz, yp, ym, yc⟩ := y
              have hsw : ∀ W, Below X0.heap.size X0 W → (W.cell? ⟨rb, roff + k * 4, none⟩ = some (.int .i64 zk) ∧ W.cell? ⟨rb, roff + k * 4 + 1, none⟩ = some (.int .i64 zn) ∧ W.cell? ⟨rb, roff + k * 4 + 2, none⟩ = some (.string zz) ∧ W.cell? ⟨rb, roff + k * 4 + 3, none⟩ = some (.slice zp zm zc)) ∧ W.cell? ⟨vb, voff + k * 4, none⟩ = some (.int .i64 yk) ∧ W.cell? ⟨vb, voff + k * 4 + 1, none⟩ = some (.int .i64 yn) ∧ W.cell? ⟨vb, voff + k * 4 + 2, none⟩ = some (.string yz) ∧ W.cell? ⟨vb, voff + k * 4 + 3, none⟩ = some (.slice yp ym yc) := fun W h => by
                obtain ⟨_, _, e, _, a0, a1, a2, a3⟩ := hcr W h
                injection e with e
                injection e with e1 e2
                subst e1 e2
                obtain ⟨_, _, e, _, b0, b1, b2, b3⟩ := hcv W h
                injection e with e
                injection e with e1 e2
                subst e1 e2
                exact ⟨⟨a0, a1, a2, a3⟩, b0, b1, b2, b3⟩
              have HRR := Lib.hid hrr
              have HRV := Lib.hid hrv
              have HWR := Lib.hid hwr
              have HWV := Lib.hid hwv
              have HSW := Lib.hid hsw
              clear hcr hcv hrr hrv hwr hwv hsw hrb hvb
              obtain ⟨⟨z0, z1, z2, z3⟩, _⟩ := HSW.out wr HBX.out
              go_wp2_with fail
              refine (HRR.out _ HBX.out).mono ?_
              rintro e Y3 ⟨p3, c3, rfl, _, hB3⟩
              have HB3 := Lib.hid (HBX.out.trans (hB3.mono HBX.out.size))
              have HK3 := Lib.hid (HBK.out.trans (hB3.mono hszk))
              clear hB3 z0 z1 z2 z3
              obtain ⟨_, y0, y1, y2, y3⟩ := HSW.out Y3 HB3.out
              go_wp2_with fail
              refine (HRV.out _ HB3.out).mono ?_
              rintro e Y4 ⟨p4, c4, rfl, _, hB4⟩
              have HB4 := Lib.hid (HB3.out.trans (hB4.mono HB3.out.size))
              have HK4 := Lib.hid (HK3.out.trans (hB4.mono HK3.out.size))
              clear hB4 y0 y1 y2 y3
              have hbd := HB4.out.drew
              have hS0 := HSW.out Y4.drew hbd
              have HBD := Lib.hid hbd
              have g1 : ((n3.length : Int) != (n3.length : Int)) = false := by simp
              have g2 : ((n4.length : Int) != (n4.length : Int)) = false := by simp
              clear hbd
              go_wp2_with fail
              refine wp_region_T (fun W : World => (W.cell? ⟨rb, roff + k * 4, none⟩ = some (.int .i64 zk) ∧ W.cell? ⟨rb, roff + k * 4 + 1, none⟩ = some (.int .i64 zn) ∧ W.cell? ⟨rb, roff + k * 4 + 2, none⟩ = some (.string zz) ∧ W.cell? ⟨rb, roff + k * 4 + 3, none⟩ = some (.slice zp zm zc)) ∧ W.cell? ⟨vb, voff + k * 4, none⟩ = some (.int .i64 yk) ∧ W.cell? ⟨vb, voff + k * 4 + 1, none⟩ = some (.int .i64 yn) ∧ W.cell? ⟨vb, voff + k * 4 + 2, none⟩ = some (.string yz) ∧ W.cell? ⟨vb, voff + k * 4 + 3, none⟩ = some (.slice yp ym yc)) (fun j => false) (by kernel_rfl) ?_
              refine wpAnyT_take (i := 0) (v := ?vf0) rfl (by kernel_rfl) (by kernel_rfl) (by kernel_rfl) (by kernel_rfl) (by kernel_rfl) (fun _ _ _ h => h) (Or.inl ⟨by rfl, ?yf0⟩) (hS0) ?rf0
              case yf0 => (intro w hSw; (try dsimp only at hSw); go_simp; try with_reducible rfl)
              try simp only [Act.put, List.setIfInBounds_toArray, List.set_cons_zero, List.set_cons_succ, List.getElem_toArray, List.getElem_cons_succ, List.getElem_cons_zero]
              refine wpAnyT_take (i := 1) (v := ?vf1) rfl (by kernel_rfl) (by kernel_rfl) (by kernel_rfl) (by kernel_rfl) (by kernel_rfl) (fun _ _ _ h => h) (Or.inl ⟨by rfl, ?yf1⟩) (hS0) ?rf1
              case yf1 => (intro w hSw; (try dsimp only at hSw); go_simp; try with_reducible rfl)
              try simp only [Act.put, List.setIfInBounds_toArray, List.set_cons_zero, List.set_cons_succ, List.getElem_toArray, List.getElem_cons_succ, List.getElem_cons_zero]
              refine wpAnyT_take (i := 2) (v := ?vf2) rfl (by kernel_rfl) (by kernel_rfl) (by kernel_rfl) (by kernel_rfl) (by kernel_rfl) (fun _ _ _ h => h) (Or.inl ⟨by rfl, ?yf2⟩) (hS0) ?rf2
              case yf2 => (intro w hSw; (try dsimp only at hSw); go_simp; try with_reducible rfl)
              try simp only [Act.put, List.setIfInBounds_toArray, List.set_cons_zero, List.set_cons_succ, List.getElem_toArray, List.getElem_cons_succ, List.getElem_cons_zero]
              refine wpAnyT_take (i := 3) (v := ?vf3) rfl (by kernel_rfl) (by kernel_rfl) (by kernel_rfl) (by kernel_rfl) (by kernel_rfl) (fun _ _ _ h => h) (Or.inl ⟨by rfl, ?yf3⟩) (hS0) ?rf3
              case yf3 => (intro w hSw; (try dsimp only at hSw); go_simp; try with_reducible rfl)
              try simp only [Act.put, List.setIfInBounds_toArray, List.set_cons_zero, List.set_cons_succ, List.getElem_toArray, List.getElem_cons_succ, List.getElem_cons_zero]
              refine wpAnyT_take (i := 4) (v := ?vf4) rfl (by kernel_rfl) (by kernel_rfl) (by kernel_rfl) (by kernel_rfl) (by kernel_rfl) (fun _ _ _ h => h) (Or.inl ⟨by rfl, ?yf4⟩) (hS0) ?rf4
              case yf4 => (intro w hSw; (try dsimp only at hSw); go_simp; try with_reducible rfl)
              try simp only [Act.put, List.setIfInBounds_toArray, List.set_cons_zero, List.set_cons_succ, List.getElem_toArray, List.getElem_cons_succ, List.getElem_cons_zero]
              refine wpAnyT_take (i := 5) (v := ?vf5) rfl (by kernel_rfl) (by kernel_rfl) (by kernel_rfl) (by kernel_rfl) (by kernel_rfl) (fun _ _ _ h => h) (Or.inl ⟨by rfl, ?yf5⟩) (hS0) ?rf5
              case yf5 => (intro w hSw; (try dsimp only at hSw); go_simp; try with_reducible rfl)
              try simp only [Act.put, List.setIfInBounds_toArray, List.set_cons_zero, List.set_cons_succ, List.getElem_toArray, List.getElem_cons_succ, List.getElem_cons_zero]
              refine wpAnyT_take (i := 6) (v := ?vf6) rfl (by kernel_rfl) (by kernel_rfl) (by kernel_rfl) (by kernel_rfl) (by kernel_rfl) (fun _ _ _ h => h) (Or.inl ⟨by rfl, ?yf6⟩) (hS0) ?rf6
              case yf6 => (intro w hSw; (try dsimp only at hSw); go_simp; try with_reducible rfl)
              try simp only [Act.put, List.setIfInBounds_toArray, List.set_cons_zero, List.set_cons_succ, List.getElem_toArray, List.getElem_cons_succ, List.getElem_cons_zero]
              refine wpAnyT_take (i := 7) (v := ?vf7) rfl (by kernel_rfl) (by kernel_rfl) (by kernel_rfl) (by kernel_rfl) (by kernel_rfl) (fun _ _ _ h => h) (Or.inl ⟨by rfl, ?yf7⟩) (hS0) ?rf7
              case yf7 => (intro w hSw; (try dsimp only at hSw); go_simp; try with_reducible rfl)
              try simp only [Act.put, List.setIfInBounds_toArray, List.set_cons_zero, List.set_cons_succ, List.getElem_toArray, List.getElem_cons_succ, List.getElem_cons_zero]
              refine wpAnyT_take (i := 8) (v := ?vf8) rfl (by kernel_rfl) (by kernel_rfl) (by kernel_rfl) (by kernel_rfl) (by kernel_rfl) (fun _ _ _ h => h) (Or.inl ⟨by rfl, ?yf8⟩) (hS0) ?rf8
              case yf8 => (intro w hSw; (try dsimp only at hSw); go_simp; try with_reducible rfl)
              try simp only [Act.put, List.setIfInBounds_toArray, List.set_cons_zero, List.set_cons_succ, List.getElem_toArray, List.getElem_cons_succ, List.getElem_cons_zero]
              refine wpAnyT_take (i := 9) (v := ?vf9) rfl (by kernel_rfl) (by kernel_rfl) (by kernel_rfl) (by kernel_rfl) (by kernel_rfl) (fun _ _ _ h => h) (Or.inl ⟨by rfl, ?yf9⟩) (hS0) ?rf9
              case yf9 => (intro w hSw; (try dsimp only at hSw); go_simp; try with_reducible rfl)
              try simp only [Act.put, List.setIfInBounds_toArray, List.set_cons_zero, List.set_cons_succ, List.getElem_toArray, List.getElem_cons_succ, List.getElem_cons_zero]
              refine wpAnyT_take (i := 12) (v := ?vf12) rfl (by kernel_rfl) (by kernel_rfl) (by kernel_rfl) (by kernel_rfl) (by kernel_rfl) (fun _ _ _ h => h) (Or.inl ⟨by rfl, ?yf12⟩) (hS0) ?rf12
              case yf12 => (intro w hSw; (try dsimp only at hSw); go_simp; try with_reducible rfl)
              try simp only [Act.put, List.setIfInBounds_toArray, List.set_cons_zero, List.set_cons_succ, List.getElem_toArray, List.getElem_cons_succ, List.getElem_cons_zero]
              refine wpAnyT_take (i := 13) (v := ?vf13) rfl (by kernel_rfl) (by kernel_rfl) (by kernel_rfl) (by kernel_rfl) (by kernel_rfl) (fun _ _ _ h => h) (Or.inl ⟨by rfl, ?yf13⟩) (hS0) ?rf13
              case yf13 => (intro w hSw; (try dsimp only at hSw); go_simp; try with_reducible rfl)
              try simp only [Act.put, List.setIfInBounds_toArray, List.set_cons_zero, List.set_cons_succ, List.getElem_toArray, List.getElem_cons_succ, List.getElem_cons_zero]
              refine wpAnyT_take (i := 14) (v := ?vf14) rfl (by kernel_rfl) (by kernel_rfl) (by kernel_rfl) (by kernel_rfl) (by kernel_rfl) (fun _ _ _ h => h) (Or.inl ⟨by rfl, ?yf14⟩) (hS0) ?rf14
              case yf14 => (intro w hSw; (try dsimp only at hSw); go_simp; try with_reducible rfl)
              try simp only [Act.put, List.setIfInBounds_toArray, List.set_cons_zero, List.set_cons_succ, List.getElem_toArray, List.getElem_cons_succ, List.getElem_cons_zero]
              refine wpAnyT_take (i := 15) (v := ?vf15) rfl (by kernel_rfl) (by kernel_rfl) (by kernel_rfl) (by kernel_rfl) (by kernel_rfl) (fun _ _ _ h => h) (Or.inl ⟨by rfl, ?yf15⟩) (hS0) ?rf15
              case yf15 => (intro w hSw; (try dsimp only at hSw); go_simp; try with_reducible rfl)
              try simp only [Act.put, List.setIfInBounds_toArray, List.set_cons_zero, List.set_cons_succ, List.getElem_toArray, List.getElem_cons_succ, List.getElem_cons_zero]
              refine wpAnyT_run (i := 10) (by kernel_rfl) rfl (fun K hK => ?_)
              go_simp
              (refine (HWR.out _ HBD.out).mono ?_; rintro e Y5 ⟨p5, c5, rfl, _, hB5⟩)
              have HB5 := Lib.hid (HBD.out.trans (hB5.mono HBD.out.size))
              have HK5 := Lib.hid (HK4.out.drew.trans (hB5.mono HK4.out.drew.size))
              have hS5 := HSW.out _ HB5.out
              clear hB5
              go_wp2_with fail
              refine hK.out _ _ (fun _ => hS5) ?_
              clear hK K
              try simp only [Act.put, List.setIfInBounds_toArray, List.set_cons_zero, List.set_cons_succ, List.getElem_toArray, List.getElem_cons_succ, List.getElem_cons_zero]
              refine wpAnyT_take (i := 11) (v := ?vf11) rfl (by kernel_rfl) (by kernel_rfl) (by kernel_rfl) (by kernel_rfl) (by kernel_rfl) (fun _ _ _ h => h) (Or.inl ⟨by rfl, ?yf11⟩) (hS5) ?rf11
              case yf11 => (intro w hSw; (try dsimp only at hSw); go_simp; try with_reducible rfl)
              try simp only [Act.put, List.setIfInBounds_toArray, List.set_cons_zero, List.set_cons_succ, List.getElem_toArray, List.getElem_cons_succ, List.getElem_cons_zero]
              refine wpAnyT_run (i := 16) (by kernel_rfl) rfl (fun K hK => ?_)
              go_simp
              (refine (HWV.out _ HB5.out).mono ?_; rintro e Y6 ⟨p6, c6, rfl, _, hB6⟩)
              have HK6 := Lib.hid (HK5.out.trans (hB6.mono HK5.out.size))
              have hS6 := HSW.out _ (HB5.out.trans (hB6.mono HB5.out.size))
              clear hB6
              go_wp2_with fail
              refine hK.out _ _ (fun _ => hS6) ?_
              clear hK K
              try simp only [Act.put, List.setIfInBounds_toArray, List.set_cons_zero, List.set_cons_succ, List.getElem_toArray, List.getElem_cons_succ, List.getElem_cons_zero]
              refine wpAnyT_take (i := 17) (v := ?vf17) rfl (by kernel_rfl) (by kernel_rfl) (by kernel_rfl) (by kernel_rfl) (by kernel_rfl) (fun _ _ _ h => h) (Or.inl ⟨by rfl, ?yf17⟩) (hS6) ?rf17
              case yf17 => (intro w hSw; (try dsimp only at hSw); go_simp; try with_reducible rfl)
              try simp only [Act.put, List.setIfInBounds_toArray, List.set_cons_zero, List.set_cons_succ, List.getElem_toArray, List.getElem_cons_succ, List.getElem_cons_zero]
              refine wpAnyT_take (i := 18) (v := ?vf18) rfl (by kernel_rfl) (by kernel_rfl) (by kernel_rfl) (by kernel_rfl) (by kernel_rfl) (fun _ _ _ h => h) (Or.inl ⟨by rfl, ?yf18⟩) (hS6) ?rf18
              case yf18 => (intro w hSw; (try dsimp only at hSw); go_simp; try with_reducible rfl)
              try simp only [Act.put, List.setIfInBounds_toArray, List.set_cons_zero, List.set_cons_succ, List.getElem_toArray, List.getElem_cons_succ, List.getElem_cons_zero]
              refine wpAnyT_take (i := 19) (v := ?vf19) rfl (by kernel_rfl) (by kernel_rfl) (by kernel_rfl) (by kernel_rfl) (by kernel_rfl) (fun _ _ _ h => h) (Or.inl ⟨by rfl, ?yf19⟩) (hS6) ?rf19
              case yf19 => (intro w hSw; (try dsimp only at hSw); go_simp; try with_reducible rfl)
              try simp only [Act.put, List.setIfInBounds_toArray, List.set_cons_zero, List.set_cons_succ, List.getElem_toArray, List.getElem_cons_succ, List.getElem_cons_zero]
              refine wpAnyT_done (by kernel_rfl) ?_ _
              go_wp2_with fail
              exact ⟨⟨k + 1, by omega, by go_num, HK6.out⟩, by simp [intOf]; omega⟩
            · obtain rfl : k = fs.length := by omega
              have f1 : decide ((fs.length : Int) < (fs.length : Int)) = false := decide_eq_false (by omega)
              have hfin := Lib.hid (HFW.out.go HBX.out).oc.ok.b
              have hlen2 : (((putTo vs fs.length).length : Int) == (S.size : Int)) = true := by rw [hSz]; simp
              have HS2 := Lib.hid hSz
              clear hSz
              go_wp2_with fail
              go_ret
              exact ⟨by simp [HS2.out], hfin.out⟩
end Go.Proofs.YtffoklhopmhjaaaGreatDoor

/- The frame of a row that lists no variable. -/
set_option linter.unusedSimpArgs false
set_option linter.unusedVariables false
namespace Go.Proofs.YtffoklhopmhjaaaGreatDoor
open Go Go.ChangeShapes Go.WideShapes Go.ChangeAt Go.RowKit

/-- 'post' of a call that leaves all blocks that were there as they were -/
theorem post_of_below {H : Type} {enc : TypeId × Value → H} {P : Program} {f : Func} {s : ChangeSpec} {apart fresh handsOn again : Bool} {W W' : World} {args : Array Value} {v : Value} {ds gs : List (DataW H)} {before pa pv : List MemPlace}
    (hW : DataW.Whole enc P f.params.toList s.vars apart W args.toList ds gs before)
    (hres : ∀ (b : Nat) (sp : Nat → Bool) (hd : Bool), DataW.TrodAll enc P W' b sp hd f.resultTypes.toList (v.resultList f.resultTypes.size) (s.fn H (ds ++ gs)).results [])
    (hargs : ∀ sp : Nat → Bool, (∀ p ∈ before, sp p.block = true) → DataW.TrodAll enc P W' 0 sp true f.params.toList args.toList (s.fn H (ds ++ gs)).args pa)
    (hvars : ∀ sp : Nat → Bool, (∀ p ∈ before, sp p.block = true) → DataW.TrodVars enc P W' sp s.vars (s.fn H (ds ++ gs)).vars pv)
    (hps : before = pa ++ pv) (hb : Below W.heap.size W W')
    (hok : ∀ (j : Nat) (t : TypeId) (r : Value), f.resultTypes[j]? = some t → (v.resultList f.resultTypes.size)[j]? = some r → Value.okWide P W' .any 0 t r) :
    s.post enc P f apart fresh handsOn again W args v W' := by
  have hold : ∀ p ∈ before, (fun b => decide (b < W.heap.size)) p.block = true := fun p hp => by simpa using hW.lt p hp
  refine ⟨ds, gs, before, [], pa, pv, hW, hres _ _ _, hargs _ hold, hvars _ hold, hb.frame _, fun _ => ?_⟩
  have hlt : ∀ p ∈ before, p.block < W.heap.size := fun p hp => by simpa using hW.lt p hp
  obtain ⟨_, _, _, _, _, hz, hn⟩ := hW
  refine ⟨hok, _, _, ([] ++ pa) ++ pv, ⟨[] ++ pa, pv, trodAll_append (hargs _ (fun _ _ => rfl)) (hres _ _ _), hvars _ (fun _ _ => rfl), rfl, ?_, ?_⟩, ?_⟩
  · intro b off hp
    have hp' : MemPlace.cell b off ∈ before := by rw [hps]; simpa using hp
    rw [hb.frozen (p := ⟨b, off, none⟩) (hlt _ hp')]
    exact hz b off hp'
  · intro ha
    have := hn ha
    rw [hps] at this
    simpa using this
  · intro p hp _
    rw [hps]
    simpa using hp

theorem own : ownKnob Tryz.prog.godebug = none := by kernel_rfl
noncomputable def plainWorld (os : Os) : World := World.holding Tryz.prog os ⟨#[], #[], []⟩
theorem laid_none (P : Program) (w : World) : laidMet P [] w := laidMet_nil _ _
end Go.Proofs.YtffoklhopmhjaaaGreatDoor

/- The frame of a row: whatever a call leaves, its arguments read as before; and slices, opened. -/
set_option linter.unusedSimpArgs false
set_option linter.unusedVariables false
namespace Go.Proofs.YtffoklhopmhjaaaGreatDoor
open Go Go.ChangeShapes Go.WideShapes Go.ChangeAt Go.RowKit

theorem trodAll_stays {H : Type} {enc : TypeId × Value → H} {P : Program} (hl : laidOutB P = true) {W W' : World} {sp : Nat → Bool} (hb : Below W.heap.size W W') :
    ∀ (ts : List TypeId) (vs : List Value) (ds : List (DataW H)) (ps : List MemPlace), ts.all (fun t => P.readableRec t && decide (t < P.types.size)) = true → (∀ x ∈ ps, x.block < W.heap.size) → (∀ x ∈ ps, sp x.block = true) →
      DataW.TrodAll enc P W 0 (fun _ => true) true ts vs ds ps → DataW.TrodAll enc P W' 0 sp true ts vs ds ps
  | [], [], [], _, _, _, _, h => h
  | t :: ts, v :: vs, d :: ds, ps, hr, hlt, hsp, h => by
    obtain ⟨p, q, h0, h1, rfl⟩ := h
    simp only [List.all_cons, Bool.and_eq_true, decide_eq_true_eq] at hr
    exact ⟨p, q, WideElems.Trod_stays hl hr.1.1 hr.1.2 h0 (fun x hx => hb.same (hlt x (List.mem_append_left _ hx))) (fun x hx => hsp x (List.mem_append_left _ hx)),
      trodAll_stays hl hb ts vs ds q hr.2 (fun x hx => hlt x (List.mem_append_right _ hx)) (fun x hx => hsp x (List.mem_append_right _ hx)) h1, rfl⟩
  | [], [], _ :: _, _, _, _, _, h => h.elim
  | [], _ :: _, _, _, _, _, _, h => h.elim
  | _ :: _, [], _, _, _, _, _, h => h.elim
  | _ :: _, _ :: _, [], _, _, _, _, h => h.elim

/-- 'post' of a law that answers true and leaves all blocks that were there as they were -/
theorem true_post {H : Type} {enc : TypeId × Value → H} {P : Program} {f : Func} {s : ChangeSpec} {tb : TypeId} {W W' : World} {args : Array Value} {ds gs : List (DataW H)} {before : List MemPlace}
    (hl : laidOutB P = true) (hr : f.params.toList.all (fun t => P.readableRec t && decide (t < P.types.size)) = true) (hres : f.resultTypes = #[tb]) (htb : P.underlying tb = some .bool) (hv : s.vars = [])
    (hf1 : (s.fn H (ds ++ gs)).results = [.lit (.bool true)]) (hf2 : (s.fn H (ds ++ gs)).args = ds) (hf3 : (s.fn H (ds ++ gs)).vars = [])
    (hW : DataW.Whole enc P f.params.toList s.vars false W args.toList ds gs before) (hb : Below W.heap.size W W') :
    s.post enc P f false true false false W args (.bool true) W' := by
  have hW' := hW
  obtain ⟨p, q, hA0, hV, rfl, hfz, hnd⟩ := hW
  rw [hv] at hV
  obtain ⟨rfl, rfl⟩ := trodVars_none hV
  refine post_of_below (pa := p) (pv := []) hW' (fun _ _ _ => ?_) (fun sp hsp => ?_) (fun _ _ => ?_) (by simp) hb (ok_one hres rfl (okWide_bool_mk htb _))
  · rw [hf1, hres]
    exact trodAll_cons_mk (shut_bool htb _) trodAll_mk0
  · rw [hf2]
    exact trodAll_stays hl hb _ _ _ _ hr (fun x hx => by simpa using hW'.lt x (by simpa using hx)) (fun x hx => hsp x (by simpa using hx)) hA0
  · rw [hf3, hv]
    rfl

theorem add_plain (b o j : Nat) : (⟨b, o, none⟩ : Addr).add j = ⟨b, o + j, none⟩ := by
  unfold Addr.add
  split
  · next h => rw [h]; rfl
  · rfl

/-- A slice opened: its elements are of a kind that is known by its cells. -/
theorem open_lies {α : Type} {H : Type} {enc : TypeId × Value → H} {P : Program} {W : World} {sp : Nat → Bool} {t e : TypeId} {v : Value} {d : DataW H} {ps : List MemPlace} (size : Nat) (cells : α → List Value) (good : α → Prop)
    (ht : P.underlying t = some (.slice e)) (hs : P.cellsOf e = size) (hpos : 0 < size)
    (hel : ∀ (n : Nat) (cs : List Value) (x : DataW H × List MemPlace), cs.length = size → DataW.trod enc P W 0 sp true n e cs = some x → ∃ a, cs = cells a ∧ good a)
    (hone : ∃ c, v.cells = #[c] ∧ v = c) (h : DataW.Trod enc P W 0 sp true t v d ps) (hlt : ∀ x ∈ ps, x.block < W.heap.size) :
    ∃ (p : Option Addr) (n c : Nat) (xs : List α), v = .slice p n c ∧ xs.length = n ∧ n ≤ c ∧ c ≤ maxLen ∧ Lies W v n size (xs.flatMap cells) ∧ (∀ a ∈ xs, good a) ∧ (∀ a ∈ xs, (cells a).length = size) := by
  obtain ⟨fuel, hf⟩ := h
  obtain ⟨c, hc, rfl⟩ := hone
  rw [hc] at hf
  rcases Deep.open_slice ht hf with ⟨hcs, hx⟩ | ⟨a, len, cap, m, n, D, Pl, hcs, hba, hl, hm, hmm, hx, hall⟩
  · simp at hcs
    subst hcs
    exact ⟨none, 0, 0, [], rfl, rfl, Nat.le_refl _, by unfold maxLen; omega, ⟨by simp, .inl ⟨rfl, none, 0, rfl⟩⟩, by simp, by simp⟩
  · simp at hcs
    subst hcs
    rw [hs] at hall hx
    have hlm : len ≤ m := by rw [hmm]; split <;> omega
    have hch : ∀ i, i < len → ∃ x : α, W.cells? 0 (a.add (i * size)) size = some (cells x) ∧ good x ∧ (cells x).length = size := fun i hi => by
      obtain ⟨cs', h1, h2⟩ := hall i (by omega)
      obtain ⟨_, hlen, _⟩ := World.cells?_some h1
      obtain ⟨x, rfl, hg⟩ := hel n cs' _ hlen h2
      exact ⟨x, h1, hg, hlen⟩
    rcases Nat.eq_zero_or_pos len with rfl | hlpos
    · exact ⟨some a, 0, cap, [], rfl, rfl, hl, hm, ⟨by simp, .inl ⟨rfl, some a, cap, rfl⟩⟩, by simp, by simp⟩
    have hxs : ∃ xs : List α, xs.length = len ∧ ∀ (i : Nat) (hi : i < xs.length), W.cells? 0 (a.add (i * size)) size = some (cells xs[i]) ∧ good xs[i] ∧ (cells xs[i]).length = size := by
      clear hx hall hl hlm hlpos hf hc hmm
      induction len with
      | zero => exact ⟨[], rfl, fun i hi => absurd hi (by simp)⟩
      | succ k ih =>
        obtain ⟨xs, hx1, hx2⟩ := ih (fun i hi => hch i (by omega))
        obtain ⟨x, hx⟩ := hch k (by omega)
        refine ⟨xs ++ [x], by simp [hx1], fun i hi => ?_⟩
        by_cases hik : i < xs.length
        · rw [List.getElem_append_left hik]; exact hx2 i hik
        · have : i = k := by simp at hi; omega
          subst this
          rw [List.getElem_append_right (by omega)]
          simp [hx1]
          exact hx
    obtain ⟨xs, hx1, hx2⟩ := hxs
    have hlen : ∀ x ∈ xs, (cells x).length = size := fun x hx => by
      obtain ⟨i, hi, rfl⟩ := List.mem_iff_getElem.1 hx
      exact (hx2 i hi).2.2
    have hgood : ∀ x ∈ xs, good x := fun x hx => by
      obtain ⟨i, hi, rfl⟩ := List.mem_iff_getElem.1 hx
      exact (hx2 i hi).2.1
    have hspot : a = ⟨a.block, a.off, none⟩ := by
      obtain ⟨_, hl0, h0⟩ := World.cells?_some (hx2 0 (by omega)).1
      have h00 := h0 0 hpos
      have hz : (a.add (0 * size)).add 0 = a := by unfold Addr.add; simp
      rw [hz] at h00
      have hsome : ∃ u, (cells xs[0])[0]? = some u := by
        rw [List.getElem?_eq_getElem (by rw [hl0]; exact hpos)]; exact ⟨_, rfl⟩
      obtain ⟨u, hu⟩ := hsome
      rw [hu] at h00
      have := World.cell?_spot h00
      cases a; simp_all
    have hblk : a.block < W.heap.size := by
      simp only [Prod.mk.injEq] at hx
      have hmem : (MemPlace.row a (m * size))[0]? ≠ none := by
        have hmp : 0 < m * size := Nat.mul_pos (by omega) hpos
        simp [MemPlace.row]
        omega
      obtain ⟨y, hy⟩ := Option.ne_none_iff_exists'.1 hmem
      have hyb : y.block = a.block := by
        have hmp : 0 < m * size := Nat.mul_pos (by omega) hpos
        rw [MemPlace.row] at hy
        simp [hmp] at hy
        rw [← hy]; simp [MemPlace.block, Addr.add]
      rw [← hyb]
      apply hlt
      rw [hx.2]
      exact List.mem_append_left _ (List.mem_of_getElem? hy)
    refine ⟨some a, len, cap, xs, rfl, hx1, hl, hm, ⟨?_, .inr ⟨a.block, a.off, cap, by rw [← hspot], hblk, ?_⟩⟩, hgood, hlen⟩
    · rw [List.length_flatMap, ← hx1]
      clear hx1 hx2 hgood
      induction xs with
      | nil => simp
      | cons x r ih =>
        simp only [List.map_cons, List.sum_cons, List.length_cons]
        rw [ih (fun y hy => hlen y (List.mem_cons_of_mem _ hy)), hlen x List.mem_cons_self, Nat.succ_mul, Nat.add_comm]
    · intro j u hu
      have key : ∀ (ys : List α) (o : Nat), (∀ y ∈ ys, (cells y).length = size) → (∀ (i : Nat) (hi : i < ys.length), W.cells? 0 (a.add ((o + i) * size)) size = some (cells ys[i])) → ∀ j u, (ys.flatMap cells)[j]? = some u → W.cell? (a.add (o * size + j)) = some u := by
        intro ys
        induction ys with
        | nil => intro o _ _ j u hu; simp at hu
        | cons y r ih =>
          intro o hl' hc' j u hu
          rw [List.flatMap_cons] at hu
          have hly := hl' y List.mem_cons_self
          by_cases hj : j < size
          · rw [List.getElem?_append_left (by omega)] at hu
            obtain ⟨_, _, h0⟩ := World.cells?_some (hc' 0 (by simp))
            have := h0 j hj
            rw [Deep.add_add] at this
            simp only [Nat.add_zero, List.getElem_cons_zero] at this
            rw [this, hu]
          · rw [List.getElem?_append_right (by omega), hly] at hu
            have := ih (o + 1) (fun z hz => hl' z (List.mem_cons_of_mem _ hz)) (fun i hi => by
              have := hc' (i + 1) (by simp; omega)
              rw [show o + 1 + i = o + (i + 1) from by omega]
              simpa using this) (j - size) u hu
            rw [show (o + 1) * size + (j - size) = o * size + j from by rw [Nat.succ_mul]; omega] at this
            exact this
      have := key xs 0 hlen (fun i hi => by rw [Nat.zero_add]; exact (hx2 i hi).1) j u hu
      rw [Nat.zero_mul, Nat.zero_add, hspot, add_plain] at this
      exact this
end Go.Proofs.YtffoklhopmhjaaaGreatDoor

/- What a row's list of variables gives a walk over values: the two tables of utf8, and wire's error; a world in which they lie. -/
set_option linter.unusedSimpArgs false
set_option linter.unusedVariables false
namespace Go.Proofs.YtffoklhopmhjaaaGreatDoor
open Go Go.ChangeShapes Go.WideShapes Go.ChangeAt Go.RowKit

theorem gNone : Tryz.prog.globalNamed "moraine/wire.errNone" = some 0 := by kernel_rfl
theorem gNoneType : (Tryz.prog.globals[0]?).map (·.type) = some 86 := by kernel_rfl
theorem starES : "*" ++ "errors.errorString" = "*errors.errorString" := by decide
theorem rowES (u : TypeId) (h : Tryz.prog.typeName? 3 u = some "*errors.errorString") : u = 180 :=
  typeName_ptr_named (nm := "errors.errorString") (by rw [starES]; kernel_rfl) (by kernel_rfl) (by decide) u (by rw [starES]; exact h)
theorem cellsES : Tryz.prog.cellsOf 202 = 1 := by kernel_rfl
theorem cellsStr : Tryz.prog.cellsOf 9 = 1 := by kernel_rfl

/-- wire's error lies as start-up laid it, wherever it stands in the list -/
theorem errLies_of {r : List (String × DataW Unit)} {W : World} (h : laidMet Tryz.prog (("moraine/wire.errNone", Rows.laid_moraine_wire_errNone) :: r) W) : ∃ ea, errLies ea W := by
  obtain ⟨a, s, hv, _⟩ := laid_sentinel (P := Tryz.prog) (r := r) h gNone gNoneType Tryz.underlying86 rowES Tryz.underlying180 Tryz.underlying202 rfl rfl Tryz.underlying9 cellsES cellsStr
  exact ⟨a, by simpa [errLies] using World.var?_cell gNone hv 0⟩
/-- the tables of utf8 lie -/
theorem tabs_of {l : List (String × DataW Unit)} {W : World} (h : laidMet Tryz.prog l W) (h1 : ("unicode/utf8.first", Rows.laid_unicode_utf8_first) ∈ l) (h2 : ("unicode/utf8.acceptRanges", Rows.laid_unicode_utf8_acceptRanges) ∈ l) : Tabs W :=
  Go.Proofs.utf8Tabs_of_readsT (U8Types.of196 Tryz.laysValid) ⟨by kernel_rfl, by kernel_rfl, by kernel_rfl, by kernel_rfl, by kernel_rfl, by kernel_rfl, by kernel_rfl⟩
    (by have := Lib.laidMet.reads h h1; unfold Rows.laid_unicode_utf8_first at this; rwa [Pinned.utf8First_eq] at this) (Lib.laidMet.reads h h2)

theorem laidOut : laidOutB Tryz.prog = true := by kernel_rfl
end Go.Proofs.YtffoklhopmhjaaaGreatDoor

/- The arguments of the class rows, opened: raw numbers of classes. -/
set_option linter.unusedSimpArgs false
set_option linter.unusedVariables false
namespace Go.Proofs.YtffoklhopmhjaaaGreatDoor
open Go Go.ChangeShapes Go.WideShapes Go.ChangeAt Go.RowKit Go.ChangeMaps
theorem maxLen_le {n : Nat} (h : n ≤ maxLen) : n ≤ 9223372036854775807 := by unfold maxLen at h; omega
section
variable {H : Type} {enc : TypeId × Value → H} {W : World} {base : Nat} {v : Value} {d : DataW H} {p : List MemPlace}

set_option maxRecDepth 100000 in
theorem frawOne_of_trod {n : Nat} {cs : List Value} {x : DataW H × List MemPlace} (hl : cs.length = 4) (hx : DataW.trod enc Tryz.prog W 0 (fun _ => true) true n 60 cs = some x) :
    ∃ r : FRaw, cs = r.cells ∧ r.fine := by
  obtain ⟨y0, y1, y2, y3, m, rfl, _, t0, t1, t2, t3⟩ := Joins.trod_struct4 Tryz.underlying60 hx
  match cs, hl with
  | [c0, c1, c2, c3], _ =>
    obtain ⟨k0, h0, _, b0⟩ := DataW.trod_int Tryz.underlying3 t0
    obtain ⟨k1, h1, _, b1⟩ := DataW.trod_int Tryz.underlying3 t1
    obtain ⟨k2, h2, _, b2⟩ := DataW.trod_int Tryz.underlying3 t2
    obtain ⟨k3, h3, _⟩ := DataW.trod_bool Tryz.underlying4 t3
    have q1 : Tryz.prog.cellsOf 3 = 1 := by kernel_rfl
    have q2 : Tryz.prog.cellsOf 4 = 1 := by kernel_rfl
    simp only [q1, q2, List.drop, List.take] at h0 h1 h2 h3
    simp only [List.cons.injEq, and_true] at h0 h1 h2 h3
    subst h0 h1 h2 h3
    exact ⟨⟨k0, k1, k2, k3⟩, rfl, bounds_i64 b0, bounds_i64 b1, bounds_i64 b2⟩
theorem fraw_cells (l : List FRaw) : frawCells l = l.flatMap FRaw.cells := by
  induction l with
  | nil => rfl
  | cons r l ih => show r.cells ++ frawCells l = _; rw [ih]; rfl

set_option maxRecDepth 100000 in
theorem openCRaw (hv : Value.okWide Tryz.prog W .any base 24 v) (h : DataW.Trod enc Tryz.prog W 0 (fun _ => true) true 24 v d p) (hlt : ∀ x ∈ p, x.block < W.heap.size) :
    ∃ (x : CRaw) (b : Option Addr) (c : Nat), v = crawV x b c ∧ x.fine ∧ Lies W (.slice b x.l.length c) x.l.length 4 (frawCells x.l) := by
  obtain ⟨v0, v1, y0, y1, n, rfl, _, rfl, t0, t1⟩ := Joins.open_agg2 Tryz.underlying24 (by kernel_rfl) (by kernel_rfl) hv h
  obtain ⟨k, h0, _, b0⟩ := DataW.trod_int Tryz.underlying3 t0
  simp only [List.cons.injEq, and_true] at h0
  subst h0
  have hs3 : ∃ a len cap, v1 = .slice a len cap := by
    rcases Deep.open_slice Tryz.underlying22 t1 with ⟨hcs, _⟩ | ⟨a, len, cap, _, _, _, _, hcs, _⟩
    · simp at hcs; exact ⟨_, _, _, hcs⟩
    · simp at hcs; exact ⟨_, _, _, hcs⟩
  obtain ⟨a, len, cap, rfl⟩ := hs3
  obtain ⟨b, n', c, xs, e1, e2, e3, e4, e5, e6, _⟩ := open_lies (α := FRaw) 4 FRaw.cells FRaw.fine Tryz.underlying22 (by kernel_rfl) (by decide)
    (fun n cs x hl hx => frawOne_of_trod hl hx) ⟨_, rfl, rfl⟩ (⟨n, t1⟩ : DataW.Trod enc Tryz.prog W 0 (fun _ => true) true 22 (.slice a len cap) y1.1 y1.2) (fun x hx => hlt x (by simp [hx]))
  injection e1 with f1 f2 f3
  subst f1 f2 f3
  subst e2
  rw [← fraw_cells] at e5
  exact ⟨⟨k, xs⟩, a, cap, rfl, ⟨bounds_i64 b0, maxLen_le (Nat.le_trans e3 e4), e6⟩, e5⟩
end
end Go.Proofs.YtffoklhopmhjaaaGreatDoor

/- The arguments of the class rows, opened: numbers. -/
set_option linter.unusedSimpArgs false
set_option linter.unusedVariables false
namespace Go.Proofs.YtffoklhopmhjaaaGreatDoor
open Go Go.ChangeShapes Go.WideShapes Go.ChangeAt Go.RowKit Go.ChangeMaps
section
variable {H : Type} {enc : TypeId × Value → H} {W : World} {base : Nat} {v : Value} {d : DataW H} {p : List MemPlace}
set_option maxRecDepth 100000 in
theorem openInts4 (hv : Value.okWide Tryz.prog W .any base 25 v) (h : DataW.Trod enc Tryz.prog W 0 (fun _ => true) true 25 v d p) (hlt : ∀ x ∈ p, x.block < W.heap.size) :
    ∃ (b : Option Addr) (n c : Nat) (xs : List Int), v = .slice b n c ∧ xs.length = n ∧ n ≤ c ∧ c ≤ maxLen ∧ Lies W (.slice b n c) n 1 (xs.map (Value.int .i64)) ∧ ∀ x ∈ xs, -9223372036854775808 ≤ x ∧ x ≤ 9223372036854775807 := by
  obtain ⟨pa, len, cap, rfl⟩ := okWide_slice Tryz.underlying25 hv
  obtain ⟨b, n, c, xs, h1, h2, h3, h4, h5, h6, _⟩ := open_lies (α := Int) 1 (fun s => [.int .i64 s]) (fun x => -9223372036854775808 ≤ x ∧ x ≤ 9223372036854775807) Tryz.underlying25 (by kernel_rfl) (by decide)
    (fun n cs x _ hx => by obtain ⟨s, rfl, _, hs⟩ := DataW.trod_int Tryz.underlying3 hx; exact ⟨s, rfl, bounds_i64 hs⟩) ⟨_, rfl, rfl⟩ h hlt
  refine ⟨b, n, c, xs, h1, h2, h3, h4, ?_, h6⟩
  rw [← h1, List.map_eq_flatMap]; exact h5
end
end Go.Proofs.YtffoklhopmhjaaaGreatDoor

/- The arguments of this seat's rows, opened: raw numbers of values. -/
set_option linter.unusedSimpArgs false
set_option linter.unusedVariables false
namespace Go.Proofs.YtffoklhopmhjaaaGreatDoor
open Go Go.ChangeShapes Go.WideShapes Go.ChangeAt Go.RowKit Go.ChangeMaps
section
variable {H : Type} {enc : TypeId × Value → H} {W : World} {base : Nat} {v : Value} {d : DataW H} {p : List MemPlace}

end
end Go.Proofs.YtffoklhopmhjaaaGreatDoor

/- The table of strconv's Itoa out of a row's list. -/
set_option linter.unusedSimpArgs false
set_option linter.unusedVariables false
namespace Go.Proofs.YtffoklhopmhjaaaGreatDoor
open Go Go.RowKit

theorem pow_eq : (Rows.laid_internal_strconv_uint64pow10 : DataW Unit) = Lib.tabData .u64 Lib.pow10Tab := by kernel_rfl
theorem pow_of {r : List (String × DataW Unit)} {W : World} (h : laidMet Tryz.prog (("internal/strconv.uint64pow10", Rows.laid_internal_strconv_uint64pow10) :: r) W) : Pow W := by
  rw [pow_eq] at h
  exact Lib.tabIs_of_head (g := 3) (by kernel_rfl) (t := 173) (by kernel_rfl) Tryz.underlying173 Tryz.underlying145 (by kernel_rfl) (by kernel_rfl) h
end Go.Proofs.YtffoklhopmhjaaaGreatDoor

/- What the row of ClassValues opens. -/
set_option linter.unusedSimpArgs false
set_option linter.unusedVariables false
namespace Go.Proofs.YtffoklhopmhjaaaGreatDoor
open Go Go.ChangeShapes Go.WideShapes Go.ChangeAt Go.RowKit Go.ChangeMaps
end Go.Proofs.YtffoklhopmhjaaaGreatDoor

/- For every input ClassValues returns true and leaves its arguments as they were; the condition: before the call the listed variables read as start-up lays them, which is tied to the program's text. -/
set_option linter.unusedSimpArgs false
set_option linter.unusedVariables false
namespace Go.Proofs.YtffoklhopmhjaaaGreatDoor.classValues
open Go Go.ChangeShapes Go.WideShapes Go.ChangeAt Go.RowKit Go.ChangeMaps

set_option maxRecDepth 100000 in
theorem contract (H : Type) (enc : TypeId × Value → H) (W : World) (base : Nat) (args : Array Value) (ds gs : List (DataW H)) (before : List MemPlace)
    (hval : ∀ (j : Nat) t v, Tryz.f3.params[j]? = some t → args[j]? = some v → Value.okWide Tryz.prog W .any base t v)
    (hW : DataW.Whole enc Tryz.prog Tryz.f3.params.toList Rows.classValuesSpec.vars false W args.toList ds gs before) (hL : laidMetH Tryz.prog Rows.classValuesRow.laid W) :
    Calls Tryz.prog 3 args W fun e W' => ∃ v, e = .returned v ∧ Rows.classValuesSpec.post enc Tryz.prog Tryz.f3 false true false false W args v W' := by
  have hW' := hW
  obtain ⟨p, q, hA0, hV, rfl, hfz, hnd⟩ := hW
  have hA : DataW.TrodAll enc Tryz.prog W 0 (fun _ => true) true Tryz.f3.params.toList args.toList ds p := hA0
  rw [Tryz.params3] at hA hval
  obtain ⟨v0, vs0, d0, ds0, p0, q0, hargs, rfl, rfl, h0, r0⟩ := trodAll_cons hA
  obtain ⟨v1, vs1, d1, ds1, p1, q1, rfl, rfl, rfl, h1, r1⟩ := trodAll_cons r0
  obtain ⟨rfl, rfl, rfl⟩ := trodAll_nil r1
  obtain rfl : args = #[v0, v1] := by cases args; simp_all
  obtain ⟨rfl, rfl⟩ := trodVars_none hV
  have hlt : ∀ x ∈ p0 ++ p1, x.block < W.heap.size := fun x hx => by simpa using hW'.lt x (by simpa using hx)
  clear hA0
  rw [MakeChecks.laidMetH_plain _ _ _ (by kernel_rfl)] at hL
  obtain ⟨ea, hE⟩ := errLies_of (hL.tail.tail.tail.tail)
  have hT := tabs_of hL (by simp [Rows.classValuesRow]) (by simp [Rows.classValuesRow])
  obtain ⟨x0, b0, c0, rfl, hx0, hl0⟩ := openCRaw (hval 0 24 v0 rfl rfl) h0 (fun x hx => hlt x (by simp [hx]))
  obtain ⟨b1, n1, c1, l1, rfl, rfl, hc1, hd1, hl1, hr1⟩ := openInts4 (hval 1 25 v1 rfl rfl) h1 (fun x hx => hlt x (by simp [hx]))
  have hPw := pow_of (hL.tail.tail)
  refine (classValues_walk x0 hx0 b0 c0 l1 b1 c1 (maxLen_le (Nat.le_trans hc1 hd1)) ea W hT hE hPw hl0 ⟨hl1, hr1⟩).mono fun e W' ⟨he, hb⟩ => ?_
  subst he
  exact ⟨_, rfl, true_post laidOut (by kernel_rfl) (by kernel_rfl) Tryz.underlying4 rfl rfl rfl rfl hW' hb⟩

noncomputable abbrev wit (os : Os) : World := World.laidAll Tryz.prog os Rows.classValuesRow.laid
theorem reads (os : Os) {H : Type} (enc : TypeId × Value → H) : ∃ places, DataW.whole enc Tryz.prog ((wit os).forCall (fun _ _ => 0) ⟨#[], #[Value.agg #[.int .i64 0, .slice none 0 0], .slice none 0 0], []⟩).memory Tryz.f3.params.toList Rows.classValuesSpec.vars false #[Value.agg #[.int .i64 0, .slice none 0 0], .slice none 0 0].toList 8 = some ([.agg [.lit (.int .i64 0), .nil], .nil], [], places) :=
  ⟨[], by kernel_rfl⟩

set_option maxRecDepth 100000 in
theorem lifted (os : Os) (started : os.Started) (H : Type) (enc : TypeId × Value → H) (F : Stop.Interp) :
    ReturnsInHanded {} Tryz.checked os 3 .any ((OpenSpec.ofChange Rows.classValuesSpec).preRow enc Tryz.prog Tryz.f3 Rows.classValuesRow.domain false Rows.classValuesRow.laid) (((OpenSpec.ofChange Rows.classValuesSpec).at F).post enc Tryz.prog Tryz.f3 false true false false) := by
  obtain ⟨places, hx⟩ := reads os enc
  refine returnsInHanded_of_row (C := Tryz.checked) (s := OpenSpec.ofChange Rows.classValuesSpec) own started (by kernel_rfl) Tryz.func3
    (witness_row_atRef (enc := enc) (C := Tryz.checked) false (wit os) #[Value.agg #[.int .i64 0, .slice none 0 0], .slice none 0 0] (World.laidAll_os _ _ _) (by kernel_rfl) (by kernel_rfl) (by kernel_rfl)
      (OpenSpec.preRow_of_cond 8 hx (by kernel_rfl) (fun k hk => by cases hk) (by kernel_rfl) (laidMet_laidAll _ (by kernel_rfl) (by kernel_rfl)))) ?_
  intro W base args ds gs before hval hW _ _ _ hL _ _
  exact contract H enc W base args ds gs before hval hW hL

theorem said : Rows.ClassValuesSaid :=
  OpenClaim.holds_of_cond 3 Tryz.f3 rfl rfl rfl rfl rfl rfl rfl ⟨rfl, rfl, rfl, rfl, rfl⟩ rfl rfl rfl rfl rfl (by kernel_rfl) Tryz.func3 (by kernel_rfl)
    (of_decide_eq_true (by kernel_rfl)) (by unfold Func.isWrapper; first | (rw [if_pos (by decide +kernel)]; kernel_rfl) | (rw [if_neg (by decide +kernel)]; exact ⟨rfl, rfl⟩))
    (fun os started H enc _ F => by rw [OpenClaim.pre_eq_preRow]; exact lifted os started H enc F)

theorem plain (f : FuncId) (fn : Func) (hf : Tryz.pinned.checked.prog.funcNamed "moraine/morainelaw04.ClassValues" = some f) (hfn : Tryz.pinned.checked.prog.funcs[f]? = some fn) :
    true = Tryz.pinned.checked.prog.looks [] ∧ ∀ (j : Nat) t, fn.params[j]? = some t → Tryz.pinned.checked.prog.wantsStandIn t = false := by
  obtain rfl : f = 3 := Option.some.inj ((show Tryz.prog.funcNamed "moraine/morainelaw04.ClassValues" = some 3 by kernel_rfl).symm.trans hf) |>.symm
  obtain rfl : fn = Tryz.f3 := (Option.some.inj (Tryz.func3.symm.trans hfn)).symm
  refine ⟨by kernel_rfl, fun j t ht => ?_⟩
  have h := Array.mem_of_getElem? ht
  rw [Tryz.params3] at h
  show Tryz.prog.wantsStandIn t = false
  have hall : (#[24, 25] : Array TypeId).all (fun t => Tryz.prog.wantsStandIn t == false) = true := by kernel_rfl
  rw [Array.all_eq_true'] at hall
  exact by simpa using hall t h

/-- the card -/
theorem card : Rows.ClassValuesCardSaid :=
  Claim7.holds_tied_plain_at .later [] _ _ _ _ said (fun _ h => by cases h) (by kernel_rfl) (fun _ h => by cases h) classValues_row_tie rfl ⟨rfl, rfl⟩ (by kernel_rfl) rfl plain (by kernel_rfl)
end Go.Proofs.YtffoklhopmhjaaaGreatDoor.classValues

/- strconv.Itoa; val.written of what is no list; the joined texts of a list. -/
import Derived.Test.YtmijlcilnaeppaaGreatDoorBun12
import Derived.Test.YtmijlcilnaeppaaGreatDoorBun10
import Derived.Test.YtmijlcilnaeppaaGreatDoorBun11
import Derived.Lib.Join
import Derived.Lib.ItoaLen
import Derived.Lib.AppendIntMem
set_option linter.unusedSimpArgs false
set_option linter.unusedVariables false
namespace Go.Proofs.YtmijlcilnaeppaaGreatDoor
open Go Go.RowKit Go.Shelf

/-- the table of strconv's Itoa lies as start-up lays it -/
def Pow (W : World) : Prop := Lib.TabIs Tryz.prog W "internal/strconv.uint64pow10" .u64 Lib.pow10Tab
theorem Pow.below {w w' : World} (h : Pow w) (hb : Below w.heap.size w w') : Pow w' := by
  have hg : Tryz.prog.globalNamed "internal/strconv.uint64pow10" = some 3 := by kernel_rfl
  have hv : ∀ W : World, W.var? Tryz.prog "internal/strconv.uint64pow10" = (W.heap[3]?).bind (fun o => match o with | .cells cs _ _ => some cs | _ => none) := fun W => by
    unfold World.var?
    rw [hg, Option.bind_some]
    cases W.heap[3]? with
    | none => rfl
    | some o => cases o <;> rfl
  have h' : w.var? Tryz.prog "internal/strconv.uint64pow10" = _ := h
  have hlt : 3 < w.heap.size := by
    rcases Nat.lt_or_ge 3 w.heap.size with hl | hl
    · exact hl
    · rw [hv, Array.getElem?_eq_none hl] at h'; cases h'
  show w'.var? Tryz.prog "internal/strconv.uint64pow10" = _
  rw [hv, hb.block 3 hlt, ← hv]
  exact h

theorem itoa_any (n : Int) (h0 : -9223372036854775808 ≤ n) (h1 : n ≤ 9223372036854775807) (w : World) (hP : Pow w) :
    Calls Tryz.prog 63 #[.int .i64 n] w fun e w' => e = .returned (.string ⟨(Lib.itoa n).toArray⟩) ∧ Below w.heap.size w w' :=
  (Tryz.strconv_Itoa n h0 h1 w hP).mono fun e w' ⟨he, k, os, hw⟩ => ⟨he, by rw [hw]; exact Lib.below_grow _ w (Nat.le_refl _) k os⟩

theorem ba_cons (c : UInt8) (l : List UInt8) : (⟨#[c]⟩ : ByteArray) ++ ⟨l.toArray⟩ = ⟨(c :: l).toArray⟩ := by
  apply ByteArray.ext
  rw [ByteArray.data_append]
  simp
theorem join_items (us : List V) : Lib.join (us.map V.textIn) [32] = itemsText us := by
  cases us with
  | nil => rfl
  | cons u us =>
    rw [List.map_cons, Lib.join_cons]
    unfold Lib.joinTail itemsText moreText
    congr 1
    rw [List.map_map, List.flatMap_def]
    rfl

set_option maxHeartbeats 2000000 in
set_option maxRecDepth 100000 in
theorem writtenIn_any (u : V) (hu : u.flatOk = true) (l : Value) (w : World) (hP : Pow w) :
    Calls Tryz.prog 34 #[valV u.k u.n u.s l] w fun e w' => e = .returned (.string ⟨u.textIn.toArray⟩) ∧ Below w.heap.size w w' := by
  obtain ⟨⟨hk0, hk4⟩, hs, _, hn1, hn2⟩ := flatOk_parts hu
  obtain ⟨uk, un, us, ul⟩ := u
  simp only [V.k, V.n, V.s] at hk0 hk4 hs hn1 hn2 ⊢
  have hb : Below w.heap.size w (w.alloc (.cells #[.int .i64 uk, .int .i64 un, .string us, l] 30)) := (Below.refl _ _).alloc (Nat.le_refl _) _
  have hPb := hP.below hb
  have hV := VBox.new w uk un us l
  have hit := fun W (h : Pow W) => itoa_any un (by omega) (by omega) W h
  have hq := fun W => quote_any us (by omega) W
  have hle := Lib.itoa_length_le un (by omega) (by omega)
  have hle' : ¬ 9223372036854775807 < 1 + (Lib.itoa un).length := by omega
  have HIT := Lib.hid hit
  have HQ := Lib.hid hq
  have HB := Lib.hid hb
  have HPB := Lib.hid hPb
  clear hit hq hb hPb hP hu hs hn1 hn2
  have hc : uk = 0 ∨ uk = 1 ∨ uk = 2 ∨ uk = 3 ∨ uk = 4 := by omega
  unfold valV
  rcases hc with rfl | rfl | rfl | rfl | rfl
  · obtain ⟨⟨c0, c1, c2, c3⟩, _⟩ := hV.facts
    go_enter Tryz.func34, Tryz.ntmps34
    go_wp2_with fail
    go_ret
    exact ⟨rfl, HB.out⟩
  · obtain ⟨⟨c0, c1, c2, c3⟩, _⟩ := hV.facts
    go_enter Tryz.func34, Tryz.ntmps34
    go_wp2_with fail
    refine (HIT.out _ HPB.out).mono ?_
    rintro e W1 ⟨rfl, hB⟩
    go_wp2_with fail
    go_ret
    exact ⟨rfl, HB.out.trans (hB.mono HB.out.size)⟩
  · obtain ⟨⟨c0, c1, c2, c3⟩, _⟩ := hV.facts
    go_enter Tryz.func34, Tryz.ntmps34
    go_wp2_with fail
    refine (HQ.out _).mono ?_
    rintro e W1 ⟨rfl, hB⟩
    go_wp2_with fail
    go_ret
    exact ⟨rfl, HB.out.trans (hB.mono HB.out.size)⟩
  · obtain ⟨⟨c0, c1, c2, c3⟩, _⟩ := hV.facts
    go_enter Tryz.func34, Tryz.ntmps34
    go_wp2_with fail
    refine (HIT.out _ HPB.out).mono ?_
    rintro e W1 ⟨rfl, hB⟩
    go_wp2_with fail
    go_ret
    exact ⟨by rw [ba_cons]; rfl, HB.out.trans (hB.mono HB.out.size)⟩
  · obtain ⟨⟨c0, c1, c2, c3⟩, _⟩ := hV.facts
    go_enter Tryz.func34, Tryz.ntmps34
    go_wp2_with fail
    refine (HIT.out _ HPB.out).mono ?_
    rintro e W1 ⟨rfl, hB⟩
    go_wp2_with fail
    go_ret
    exact ⟨by rw [ba_cons]; rfl, HB.out.trans (hB.mono HB.out.size)⟩
end Go.Proofs.YtmijlcilnaeppaaGreatDoor
